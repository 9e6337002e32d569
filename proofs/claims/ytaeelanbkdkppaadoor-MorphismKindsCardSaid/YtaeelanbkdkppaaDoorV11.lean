import Derived.Test.YtaeelanbkdkppaaDoorV10
import Derived.Deep.DeepCutAuto
/-
  The reference's Image: its partition of the nodes.
-/
namespace Go.Proofs.YtaeelanbkdkppaaDoor
open Go.RowKit Go.Shelf

set_option maxRecDepth 100000 in
set_option maxHeartbeats 8000000 in
theorem image_any (g : Gr) (An : Option Addr) (cn : Nat) (Ae : Option Addr) (ce : Nat) (codes : List Nat) (Ac : Option Addr) (cc : Nat) (w : World) (hT : GrAt w An cn Ae ce g) (hv : validE g = 0) (hC : Reads EBy w w.heap.size Ac codes) (hb : ∀ i, codes.getD i 0 < 256) (hl : codes.length ≤ 1000) :
    Calls Tryd.prog 35 #[gval An g.ns.length cn Ae g.es.length ce, .slice Ac codes.length cc] w fun e w' => (∃ v u h m, e = .returned (.tuple #[v, u]) ∧ IsG w' v h ∧ IsM w' u m ∧ MorOk g h m ∧ h.ns.length ≤ g.ns.length ∧ h.es.length ≤ g.es.length) ∧ Below w.heap.size w w' := by
  obtain ⟨q1, q2, _⟩ := valid_zero hv
  have HVV := Lib.hid hv
  have HT := Lib.hid hT
  have HNM := Lib.hid (fun (u : World) (hu : Below w.heap.size w u) => nums_any codes Ac cc u (Reads.up hC hu) hb hl)
  have HS0 : Hid (SV w [([.slice An g.ns.length cn, .slice Ae g.es.length ce], 25), ([.slice none 0 0, .slice none 0 0], 25), ([.slice none 0 0, .slice none 0 0], 27)] _) := Lib.hid (SV.push (SV.push (SV.push (SV.nil w) rfl [.slice An g.ns.length cn, .slice Ae g.es.length ce] 25) (by simp) [.slice none 0 0, .slice none 0 0] 25) (by simp) [.slice none 0 0, .slice none 0 0] 27)
  clear hT hC hb
  go_enter Tryd.func35, Tryd.ntmps35
  go_wp2_with fail
  refine (HNM.out _ HS0.out.1).mono ?_
  rintro e w1 ⟨vc, cs, rfl, hoc, hn, hb1⟩
  have HS1 := Lib.hid (HS0.out.up hb1)
  have HN := Lib.hid hn
  have HC1 := Lib.hid (OwnE.mono hoc HS0.out.1.size)
  obtain ⟨ca, cd, rfl⟩ := OwnE.slice hoc
  clear hoc hn hb1 HS0 HNM
  have c0 := HS1.out.cell (i := 0) (j := 0) rfl rfl
  simp only [Nat.add_zero] at c0
  go_wp2_with fail
  refine (Pt.refFinest_any g.ns.length w1 (by omega)).mono ?_
  rintro e w2 ⟨vp, rfl, hop, hb2⟩
  have HS2 := Lib.hid (HS1.out.up hb2)
  have HC2 := Lib.hid (OwnE.below HC1.out hb2 (Nat.le_refl _))
  have HP2 := Lib.hid (Pt.Own.mono hop HS1.out.1.size)
  have HG2 := Lib.hid (cls_range g)
  clear hop hb2 HS1 HC1 c0
  go_wp2_with fail
  go_loopw [7, 8] (fun v x wr => ∃ (i : Nat) (ys : List Nat), 1 ≤ i ∧ (i ≤ g.ns.length ∨ i = 1) ∧ x = .int .i64 (i : Int) ∧ Pt.Own wr w.heap.size v ys ∧ ClsOk g ys ∧ SV w [([.slice An g.ns.length cn, .slice Ae g.es.length ce], 25), ([.slice none 0 0, .slice none 0 0], 25), ([.slice none 0 0, .slice none 0 0], 27)] wr ∧ OwnI wr w.heap.size (.slice ca cs.length cd) cs) (fun _ x _ => g.ns.length - (intOf x).toNat)
  case atStart => exact ⟨1, _, Nat.le_refl _, .inr rfl, rfl, HP2.out, HG2.out, HS2.out, HC2.out⟩
  case round =>
    obtain ⟨i, ys, hi1, hi2, rfl, hP, hG, hS, hC⟩ := hrel
    have HP := Lib.hid hP
    have HG := Lib.hid hG
    have HS := Lib.hid hS
    have HC := Lib.hid hC
    have c0 := hS.cell (i := 0) (j := 0) rfl rfl
    simp only [Nat.add_zero] at c0
    clear HP2 HG2 HS2 HC2
    by_cases hlt : i < g.ns.length
    · have hpos := HN.out.p
      obtain ⟨j, hj⟩ : ∃ j, j = i % cs.length := ⟨_, rfl⟩
      have hjl : j < cs.length := by rw [hj]; exact Nat.mod_lt _ hpos
      obtain ⟨gc, kc, ec, _, _⟩ := OwnE.pos hC hpos
      injection ec with ec1 ec2 ec3
      subst ec1 ec3
      have ck := OwnI.cell rfl hC hjl
      obtain ⟨r1, r2⟩ := HN.out.r j
      obtain ⟨x, hx⟩ : ∃ x : Nat, cs.getD j 0 = (x : Int) := ⟨(cs.getD j 0).toNat, by omega⟩
      rw [hx] at ck r2
      obtain ⟨k, hk⟩ : ∃ k, k = x % (i + 1) := ⟨_, rfl⟩
      have hki : k ≤ i := by have := Nat.mod_lt x (show 0 < i + 1 by omega); omega
      have m1 : Int.tmod (i : Int) (cs.length : Int) = (j : Int) := by rw [Int.tmod_eq_emod_of_nonneg (by omega), hj]; rfl
      have m2 : Int.tmod (x : Int) ((i : Int) + 1) = (k : Int) := by rw [Int.tmod_eq_emod_of_nonneg (by omega), hk]; rfl
      have n1 : ¬ (cs.length : Int) = 0 := by omega
      have n2 : ¬ (i : Int) + 1 = 0 := by omega
      have j0 : (0 : Int) ≤ (j : Int) := by omega
      have j1 : (j : Int) < (cs.length : Int) := by omega
      have j2 : ((j : Int)).toNat = j := by omega
      have i1 : (i : Int) < (g.ns.length : Int) := by omega
      clear hj hx hk r1 r2 ec2 hC hpos
      obtain ⟨gn, on, rfl, hgn, hcn⟩ := Ints.cells (HT.out.ns.below hS.1) hlt
      have e1 := hcn k (by omega)
      have e2 := hcn i hlt
      have HKI := Lib.hid hki
      have HLT := Lib.hid hlt
      have HMG := Lib.hid (fun (h : g.ns.getD k 0 = g.ns.getD i 0) => cls_merge HG.out (a := k) (b := i) (by omega) hlt h)
      have HYL := Lib.hid HG.out.l
      have HM : Hid (g.ns.length - ((i : Int) + 1).toNat < g.ns.length - ((i : Int)).toNat) := Lib.hid (by omega)
      have HI1 := Lib.hid hi1
      clear hcn hgn hi2
      generalize g.ns.getD k 0 = xk at *
      generalize g.ns.getD i 0 = xi at *
      have HSD : Hid ((fun u0 : World => u0.cell? ⟨w.heap.size, 0, none⟩ = some (.slice (some ⟨gn, on, none⟩) g.ns.length cn) ∧ u0.cell? ⟨gn, on + k, none⟩ = some (.int .i64 xk) ∧ u0.cell? ⟨gn, on + i, none⟩ = some (.int .i64 xi)) wr.drew) := Lib.hid ⟨cell_up (below_d _) c0, cell_up (below_d _) e1, cell_up (below_d _) e2⟩
      have HSV := Lib.hid (HS.out.up (below_d wr))
      have HCD := Lib.hid (OwnE.below HC.out (below_d wr) (Nat.le_refl _))
      have HPD := Lib.hid (Pt.Own.below HP.out (below_d wr) (Nat.le_refl _))
      go_upto_region 7 with fail
      go_wp2_with fail
      clear c0 e1 e2 ck m1 m2 n1 n2 HS HC HP hS hP hG
      refine wp_region_noPanic ?_
      refine wp_region_held_drew (S := (fun u0 : World => u0.cell? ⟨w.heap.size, 0, none⟩ = some (.slice (some ⟨gn, on, none⟩) g.ns.length cn) ∧ u0.cell? ⟨gn, on + k, none⟩ = some (.int .i64 xk) ∧ u0.cell? ⟨gn, on + i, none⟩ = some (.int .i64 xi))) (by kernel_rfl) (HSD.out) (fun hHeld => ?_)
      have k0 : (0 : Int) ≤ (k : Int) := by omega
      have k1 : (k : Int) < (g.ns.length : Int) := by omega
      have k2 : ((k : Int)).toNat = k := by omega
      have i0 : (0 : Int) ≤ (i : Int) := by omega
      have i2 : ((i : Int)).toNat = i := by omega
      refine wpAnyH_take (i := 0) (v := ?_) (oper_at (r := _) rfl) (by kernel_rfl) (by kernel_rfl) (by kernel_rfl) (fun _ _ _ h => h) (Or.inl ⟨by rfl, ?_⟩) (by assumption) ?_
      rotate_left
      · intro w hSw; try dsimp only at hSw
        go_simp
        try with_reducible rfl
      try simp only [Act.put, List.setIfInBounds_toArray, List.set_cons_zero, List.set_cons_succ]
      refine wpAnyH_take (i := 1) (v := ?_) (oper_at (r := _) rfl) (by kernel_rfl) (by kernel_rfl) (by kernel_rfl) (fun _ _ _ h => h) (Or.inl ⟨by rfl, ?_⟩) (by assumption) ?_
      rotate_left
      · intro w hSw; try dsimp only at hSw
        go_simp
        try with_reducible rfl
      try simp only [Act.put, List.setIfInBounds_toArray, List.set_cons_zero, List.set_cons_succ]
      by_cases hk : k < i
      case neg =>
        have t1 : ¬ (k : Int) < (i : Int) := by omega
        refine wpAnyH_take (i := 2) (v := ?_) (oper_at (r := _) rfl) (by kernel_rfl) (by kernel_rfl) (by kernel_rfl) (fun _ _ _ h => h) (Or.inl ⟨by rfl, ?_⟩) (by assumption) ?_
        rotate_left
        · intro w hSw; try dsimp only at hSw
          go_simp
          try with_reducible rfl
        try simp only [Act.put, List.setIfInBounds_toArray, List.set_cons_zero, List.set_cons_succ]
        refine wpAnyH_take (i := 3) (v := ?_) (oper_at (r := _) rfl) (by kernel_rfl) (by kernel_rfl) (by kernel_rfl) (fun _ _ _ h => h) (Or.inl ⟨by rfl, ?_⟩) (by assumption) ?_
        rotate_left
        · intro w hSw; try dsimp only at hSw
          go_simp
          try with_reducible rfl
        try simp only [Act.put, List.setIfInBounds_toArray, List.set_cons_zero, List.set_cons_succ]
        refine wpAnyH_take (i := 4) (v := undef) (oper_at (r := _) rfl) (by kernel_rfl) (by kernel_rfl) (by kernel_rfl) (fun _ _ _ h => h) (Or.inr ⟨by rfl, rfl⟩) (by assumption) ?_
        try simp only [Act.put, List.setIfInBounds_toArray, List.set_cons_zero, List.set_cons_succ]
        refine wpAnyH_take (i := 5) (v := undef) (oper_at (r := _) rfl) (by kernel_rfl) (by kernel_rfl) (by kernel_rfl) (fun _ _ _ h => h) (Or.inr ⟨by rfl, rfl⟩) (by assumption) ?_
        try simp only [Act.put, List.setIfInBounds_toArray, List.set_cons_zero, List.set_cons_succ]
        refine wpAnyH_take (i := 6) (v := undef) (oper_at (r := _) rfl) (by kernel_rfl) (by kernel_rfl) (by kernel_rfl) (fun _ _ _ h => h) (Or.inr ⟨by rfl, rfl⟩) (by assumption) ?_
        try simp only [Act.put, List.setIfInBounds_toArray, List.set_cons_zero, List.set_cons_succ]
        refine wpAnyH_take (i := 7) (v := undef) (oper_at (r := _) rfl) (by kernel_rfl) (by kernel_rfl) (by kernel_rfl) (fun _ _ _ h => h) (Or.inr ⟨by rfl, rfl⟩) (by assumption) ?_
        try simp only [Act.put, List.setIfInBounds_toArray, List.set_cons_zero, List.set_cons_succ]
        refine wpAnyH_take (i := 8) (v := undef) (oper_at (r := _) rfl) (by kernel_rfl) (by kernel_rfl) (by kernel_rfl) (fun _ _ _ h => h) (Or.inr ⟨by rfl, rfl⟩) (by assumption) ?_
        try simp only [Act.put, List.setIfInBounds_toArray, List.set_cons_zero, List.set_cons_succ]
        refine wpAnyH_take (i := 9) (v := undef) (oper_at (r := _) rfl) (by kernel_rfl) (by kernel_rfl) (by kernel_rfl) (fun _ _ _ h => h) (Or.inr ⟨by rfl, rfl⟩) (by assumption) ?_
        try simp only [Act.put, List.setIfInBounds_toArray, List.set_cons_zero, List.set_cons_succ]
        refine wpAnyH_take (i := 10) (v := undef) (oper_at (r := _) rfl) (by kernel_rfl) (by kernel_rfl) (by kernel_rfl) (fun _ _ _ h => h) (Or.inr ⟨by rfl, rfl⟩) (by assumption) ?_
        try simp only [Act.put, List.setIfInBounds_toArray, List.set_cons_zero, List.set_cons_succ]
        refine wpAnyH_take (i := 11) (v := undef) (oper_at (r := _) rfl) (by kernel_rfl) (by kernel_rfl) (by kernel_rfl) (fun _ _ _ h => h) (Or.inr ⟨by rfl, rfl⟩) (by assumption) ?_
        try simp only [Act.put, List.setIfInBounds_toArray, List.set_cons_zero, List.set_cons_succ]
        refine wpAnyH_take (i := 12) (v := undef) (oper_at (r := _) rfl) (by kernel_rfl) (by kernel_rfl) (by kernel_rfl) (fun _ _ _ h => h) (Or.inr ⟨by rfl, rfl⟩) (by assumption) ?_
        try simp only [Act.put, List.setIfInBounds_toArray, List.set_cons_zero, List.set_cons_succ]
        refine wpAnyH_take (i := 13) (v := undef) (oper_at (r := _) rfl) (by kernel_rfl) (by kernel_rfl) (by kernel_rfl) (fun _ _ _ h => h) (Or.inr ⟨by rfl, rfl⟩) (by assumption) ?_
        try simp only [Act.put, List.setIfInBounds_toArray, List.set_cons_zero, List.set_cons_succ]
        refine wpAnyH_take (i := 14) (v := undef) (oper_at (r := _) rfl) (by kernel_rfl) (by kernel_rfl) (by kernel_rfl) (fun _ _ _ h => h) (Or.inr ⟨by rfl, rfl⟩) (by assumption) ?_
        try simp only [Act.put, List.setIfInBounds_toArray, List.set_cons_zero, List.set_cons_succ]
        refine wpAnyH_take (i := 15) (v := ?_) (oper_at (r := _) rfl) (by kernel_rfl) (by kernel_rfl) (by kernel_rfl) (fun _ _ _ h => h) (Or.inl ⟨by rfl, ?_⟩) (by assumption) ?_
        rotate_left
        · intro w hSw; try dsimp only at hSw
          go_simp
          try with_reducible rfl
        try simp only [Act.put, List.setIfInBounds_toArray, List.set_cons_zero, List.set_cons_succ]
        refine wpAnyH_done (by kernel_rfl) ?_ _
        refine NoPanic.normal ?_
        clear hk t1
        go_wp2_with fail
        go_roundw
        case rel => exact ⟨i + 1, ys, by omega, .inl (by have := HLT.out; omega), by go_num, HPD.out, HG.out, HSV.out, HCD.out⟩
        case measure => exact HM.out
      have t1 : (k : Int) < (i : Int) := by omega
      refine wpAnyH_take (i := 2) (v := ?_) (oper_at (r := _) rfl) (by kernel_rfl) (by kernel_rfl) (by kernel_rfl) (fun _ _ _ h => h) (Or.inl ⟨by rfl, ?_⟩) (by assumption) ?_
      rotate_left
      · intro w hSw; try dsimp only at hSw
        go_simp
        try with_reducible rfl
      try simp only [Act.put, List.setIfInBounds_toArray, List.set_cons_zero, List.set_cons_succ]
      refine wpAnyH_take (i := 3) (v := ?_) (oper_at (r := _) rfl) (by kernel_rfl) (by kernel_rfl) (by kernel_rfl) (fun _ _ _ h => h) (Or.inl ⟨by rfl, ?_⟩) (by assumption) ?_
      rotate_left
      · intro w hSw; try dsimp only at hSw
        go_simp
        try with_reducible rfl
      try simp only [Act.put, List.setIfInBounds_toArray, List.set_cons_zero, List.set_cons_succ]
      refine wpAnyH_take (i := 4) (v := ?_) (oper_at (r := _) rfl) (by kernel_rfl) (by kernel_rfl) (by kernel_rfl) (fun _ _ _ h => h) (Or.inl ⟨by rfl, ?_⟩) (by assumption) ?_
      rotate_left
      · intro w hSw; try dsimp only at hSw
        go_simp
        try with_reducible rfl
      try simp only [Act.put, List.setIfInBounds_toArray, List.set_cons_zero, List.set_cons_succ]
      refine wpAnyH_take (i := 5) (v := ?_) (oper_at (r := _) rfl) (by kernel_rfl) (by kernel_rfl) (by kernel_rfl) (fun _ _ _ h => h) (Or.inl ⟨by rfl, ?_⟩) (by assumption) ?_
      rotate_left
      · intro w hSw; try dsimp only at hSw
        go_simp
        try with_reducible rfl
      try simp only [Act.put, List.setIfInBounds_toArray, List.set_cons_zero, List.set_cons_succ]
      refine wpAnyH_take (i := 6) (v := ?_) (oper_at (r := _) rfl) (by kernel_rfl) (by kernel_rfl) (by kernel_rfl) (fun _ _ _ h => h) (Or.inl ⟨by rfl, ?_⟩) (by assumption) ?_
      rotate_left
      · intro w hSw; try dsimp only at hSw
        go_simp
        try with_reducible rfl
      try simp only [Act.put, List.setIfInBounds_toArray, List.set_cons_zero, List.set_cons_succ]
      refine wpAnyH_take (i := 7) (v := ?_) (oper_at (r := _) rfl) (by kernel_rfl) (by kernel_rfl) (by kernel_rfl) (fun _ _ _ h => h) (Or.inl ⟨by rfl, ?_⟩) (by assumption) ?_
      rotate_left
      · intro w hSw; try dsimp only at hSw
        go_simp
        try with_reducible rfl
      try simp only [Act.put, List.setIfInBounds_toArray, List.set_cons_zero, List.set_cons_succ]
      refine wpAnyH_take (i := 8) (v := ?_) (oper_at (r := _) rfl) (by kernel_rfl) (by kernel_rfl) (by kernel_rfl) (fun _ _ _ h => h) (Or.inl ⟨by rfl, ?_⟩) (by assumption) ?_
      rotate_left
      · intro w hSw; try dsimp only at hSw
        go_simp
        try with_reducible rfl
      try simp only [Act.put, List.setIfInBounds_toArray, List.set_cons_zero, List.set_cons_succ]
      refine wpAnyH_take (i := 9) (v := ?_) (oper_at (r := _) rfl) (by kernel_rfl) (by kernel_rfl) (by kernel_rfl) (fun _ _ _ h => h) (Or.inl ⟨by rfl, ?_⟩) (by assumption) ?_
      rotate_left
      · intro w hSw; try dsimp only at hSw
        go_simp
        try with_reducible rfl
      try simp only [Act.put, List.setIfInBounds_toArray, List.set_cons_zero, List.set_cons_succ]
      refine wpAnyH_take (i := 10) (v := ?_) (oper_at (r := _) rfl) (by kernel_rfl) (by kernel_rfl) (by kernel_rfl) (fun _ _ _ h => h) (Or.inl ⟨by rfl, ?_⟩) (by assumption) ?_
      rotate_left
      · intro w hSw; try dsimp only at hSw
        go_simp
        try with_reducible rfl
      try simp only [Act.put, List.setIfInBounds_toArray, List.set_cons_zero, List.set_cons_succ]
      refine wpAnyH_take (i := 11) (v := ?_) (oper_at (r := _) rfl) (by kernel_rfl) (by kernel_rfl) (by kernel_rfl) (fun _ _ _ h => h) (Or.inl ⟨by rfl, ?_⟩) (by assumption) ?_
      rotate_left
      · intro w hSw; try dsimp only at hSw
        go_simp
        try with_reducible rfl
      try simp only [Act.put, List.setIfInBounds_toArray, List.set_cons_zero, List.set_cons_succ]
      refine wpAnyH_take (i := 12) (v := ?_) (oper_at (r := _) rfl) (by kernel_rfl) (by kernel_rfl) (by kernel_rfl) (fun _ _ _ h => h) (Or.inl ⟨by rfl, ?_⟩) (by assumption) ?_
      rotate_left
      · intro w hSw; try dsimp only at hSw
        go_simp
        try with_reducible rfl
      try simp only [Act.put, List.setIfInBounds_toArray, List.set_cons_zero, List.set_cons_succ]
      refine wpAnyH_take (i := 13) (v := ?_) (oper_at (r := _) rfl) (by kernel_rfl) (by kernel_rfl) (by kernel_rfl) (fun _ _ _ h => h) (Or.inl ⟨by rfl, ?_⟩) (by assumption) ?_
      rotate_left
      · intro w hSw; try dsimp only at hSw
        go_simp
        try with_reducible rfl
      try simp only [Act.put, List.setIfInBounds_toArray, List.set_cons_zero, List.set_cons_succ]
      by_cases hx : xk = xi
      case neg =>
        have t2 : (xk == xi) = false := beq_eq_false_iff_ne.2 hx
        refine wpAnyH_take (i := 14) (v := ?_) (oper_at (r := _) rfl) (by kernel_rfl) (by kernel_rfl) (by kernel_rfl) (fun _ _ _ h => h) (Or.inl ⟨by rfl, ?_⟩) (by assumption) ?_
        rotate_left
        · intro w hSw; try dsimp only at hSw
          go_simp
          try with_reducible rfl
        try simp only [Act.put, List.setIfInBounds_toArray, List.set_cons_zero, List.set_cons_succ]
        refine wpAnyH_take (i := 15) (v := ?_) (oper_at (r := _) rfl) (by kernel_rfl) (by kernel_rfl) (by kernel_rfl) (fun _ _ _ h => h) (Or.inl ⟨by rfl, ?_⟩) (by assumption) ?_
        rotate_left
        · intro w hSw; try dsimp only at hSw
          go_simp
          try with_reducible rfl
        try simp only [Act.put, List.setIfInBounds_toArray, List.set_cons_zero, List.set_cons_succ]
        refine wpAnyH_done (by kernel_rfl) ?_ _
        refine NoPanic.normal ?_
        clear hx hk t1
        go_wp2_with fail
        go_roundw
        case rel => exact ⟨i + 1, ys, by omega, .inl (by have := HLT.out; omega), by go_num, HPD.out, HG.out, HSV.out, HCD.out⟩
        case measure => exact HM.out
      subst hx
      have HGM := Lib.hid (HMG.out rfl)
      refine wpAnyH_take (i := 14) (v := ?_) (oper_at (r := _) rfl) (by kernel_rfl) (by kernel_rfl) (by kernel_rfl) (fun _ _ _ h => h) (Or.inl ⟨by rfl, ?_⟩) (by assumption) ?_
      rotate_left
      · intro w hSw; try dsimp only at hSw
        go_simp
        try with_reducible rfl
      try simp only [Act.put, List.setIfInBounds_toArray, List.set_cons_zero, List.set_cons_succ]
      refine wpAnyH_take (i := 15) (v := ?_) (oper_at (r := _) rfl) (by kernel_rfl) (by kernel_rfl) (by kernel_rfl) (fun _ _ _ h => h) (Or.inl ⟨by rfl, ?_⟩) (by assumption) ?_
      rotate_left
      · intro w hSw; try dsimp only at hSw
        go_simp
        try with_reducible rfl
      try simp only [Act.put, List.setIfInBounds_toArray, List.set_cons_zero, List.set_cons_succ]
      refine wpAnyH_done (by kernel_rfl) ?_ _
      refine NoPanic.normal ?_
      clear hk t1 HMG
      generalize wr.drew = wq at *
      obtain ⟨pa, pc, hpe, hpr⟩ := Pt.Own.ints HPD.out
      subst hpe
      go_wp2_with fail
      refine (Pt.refMerge_any ys pa pc k i wq (by have := HYL.out; have := HKI.out; have := HLT.out; omega) (by have := HYL.out; have := HLT.out; omega) (by have := HYL.out; omega) hpr).mono ?_
      rintro e w3 ⟨v3, rfl, ho3, hb3⟩
      have HS3 := Lib.hid (HSV.out.up hb3)
      have HC3 := Lib.hid (OwnE.below HCD.out hb3 (Nat.le_refl _))
      have HP3 := Lib.hid (Pt.Own.mono ho3 HSV.out.1.size)
      clear ho3 hb3 hpr HPD HSV HCD
      go_wp2_with fail
      go_roundw
      case rel => exact ⟨i + 1, _, by have := HI1.out; omega, .inl (by have := HLT.out; omega), by go_num, HP3.out, HGM.out, HS3.out, HC3.out⟩
      case measure => exact HM.out
    · clear hi1 hi2 hS hC
      obtain ⟨pa, pc, hpe, hpr⟩ := Pt.Own.ints hP
      subst hpe
      have HSW : Hid (w.heap.size ≤ wr.heap.size) := Lib.hid HS.out.1.size
      have HCL : Hid (∀ b, (Value.slice ca cs.length cd).ownBlock = some b → b < wr.heap.size) := Lib.hid fun b h => (OwnE.lt HC.out b h).2
      go_wp2_with fail
      clear hlt hP c0
      refine (Pt.refQuo_ok ys pa pc wr hG.v (by have := hG.l; omega) hpr).mono ?_
      rintro e w3 ⟨vq, rfl, hoq, hb3⟩
      have HS3 := Lib.hid (HS.out.up hb3)
      have HC3 := Lib.hid (OwnE.below HC.out hb3 (Nat.le_refl _))
      have HQ3 := Lib.hid (OwnE.mono (own_toI hoq) HSW.out)
      have HQL : Hid (∀ b, vq.ownBlock = some b → wr.heap.size ≤ b ∧ b < w3.heap.size) := Lib.hid fun b h => OwnE.lt (own_toI hoq) b h
      have HQA : Hid (∀ j, j < g.ns.length → (Pt.toI (Pt.quoS ys)).getD j 0 = (cl ys j : Int)) := Lib.hid fun j hj => cl_at (by rw [hG.l]; exact hj)
      have HQE : Hid ((Pt.toI (Pt.quoS ys)).length = g.ns.length) := Lib.hid (by rw [Pt.toI_length, Pt.quoS_length]; exact hG.l)
      have HOK : Hid (∀ zs xs ms, zs.length = Pt.rank ys ys.length → (∀ i, i < g.ns.length → zs.getD (cl ys i) 0 = g.ns.getD i 0) → (∀ j, j < zs.length → idxB (zs.getD j 0) 100 = true) → ImJ g ys g.es.length xs ms → MorOk g ⟨zs, xs⟩ ⟨Pt.toI (Pt.quoS ys), ms⟩ ∧ zs.length ≤ g.ns.length) := Lib.hid fun zs xs ms h1 h2 h3 h4 => ⟨img_ok HVV.out hG h1 h2 h3 h4, by have := Pt.rank_le ys ys.length; have := hG.l; omega⟩
      have HCLT : Hid (∀ j, j < g.ns.length → cl ys j < Pt.rank ys ys.length) := Lib.hid fun j hj => cl_lt hG hj
      have HPUT : Hid (∀ (zs : List Int) i, i < g.ns.length → zs.length = Pt.rank ys ys.length → (∀ j, j < i → zs.getD (cl ys j) 0 = g.ns.getD j 0) → ∀ j, j < i + 1 → (zs.set (cl ys i) (g.ns.getD i 0)).getD (cl ys j) 0 = g.ns.getD j 0) := Lib.hid fun zs i hi hz h => zs_put hG hi hz h
      have HADD : Hid (∀ i xs ms, ImJ g ys i xs ms → i < g.es.length → ImJ g ys (i + 1) (xs ++ [imE g ys i]) (ms ++ [(xs.length : Int)])) := Lib.hid fun i xs ms h hi => h.add HVV.out hG hi
      generalize Pt.toI (Pt.quoS ys) = qs at *
      obtain ⟨qa, qd, rfl⟩ := OwnE.slice HQ3.out
      have HW3 : Hid (wr.heap.size ≤ w3.heap.size) := Lib.hid hb3.size
      have hcl : Pt.rank ys ys.length ≤ 40 := by have := Pt.rank_le ys ys.length; have := hG.l; omega
      have HCN := Lib.hid hcl
      clear hoq hb3 hpr hG HS HC HP
      obtain ⟨cnt, hcnt⟩ : ∃ c, c = Pt.rank ys ys.length := ⟨_, rfl⟩
      have HCNT := Lib.hid hcnt
      rw [← hcnt] at hcl
      rw [← hcnt]
      rw [← hcnt] at HOK HCLT HPUT
      clear hcnt
      go_wp2_with (at_make; refine wpList_make_Z rfl _ _ rfl w3.heap.size cnt rfl rfl (by omega) (Nat.le_refl _) ?_; intro w4 hown hb hsz)
      have HZ4 := Lib.hid hown
      have HB4 := Lib.hid hb
      have HSZ := Lib.hid hsz
      clear hown hb hsz
      go_upto_region 12 with fail
      obtain ⟨V, hV⟩ : ∃ V, V = (w4.alloc (.cells #[.slice (some ⟨w3.heap.size, 0, none⟩) cnt cnt, .slice none 0 0] 25)).alloc (.cells #[.slice qa qs.length qd, .slice none 0 0] 27) := ⟨_, rfl⟩
      rw [← hV]
      have hbV : Below w4.heap.size w4 V := by rw [hV]; exact ((Below.refl _ _).alloc (Nat.le_refl _) _).alloc (by simp) _
      have hb3 : Below w3.heap.size w3 V := HB4.out.trans (hbV.mono HB4.out.size)
      have hVs : V.heap.size = w4.heap.size + 2 := by rw [hV]; simp
      have HI0 : Hid (ImS g An cn Ae ce w (.slice qa qs.length qd) (.slice ca cs.length cd) qs cs V.heap.size w3.heap.size w4.heap.size (w4.heap.size + 1) V) := Lib.hid ⟨HS3.out.up hb3, OwnE.below HQ3.out hb3 (Nat.le_refl _), OwnE.below HC3.out hb3 (Nat.le_refl _), fun b h => by have := (HQL.out b h).2; have := HSZ.out; omega, fun b h => by have := HCL.out b h; have := HW3.out; have := HSZ.out; omega, by have h1 : w.heap.size + 3 ≤ w3.heap.size := HS3.out.2.1; have := HSZ.out; omega, Nat.le_refl _⟩
      have HBO : Hid (V.heap[w4.heap.size]? = some (.cells #[.slice (some ⟨w3.heap.size, 0, none⟩) cnt cnt, .slice none 0 0] 25 (0, 0))) := Lib.hid (by rw [hV]; exact heap_two _ _ _)
      have HBM : Hid (V.heap[w4.heap.size + 1]? = some (.cells #[.slice qa qs.length qd, .slice none 0 0] 27 (0, 0))) := Lib.hid (by rw [hV]; exact heap_two' _ _ _)
      have HZV := Lib.hid (OwnE.below HZ4.out hbV (Nat.le_refl _))
      obtain ⟨bo, hbo⟩ : ∃ b, b = w4.heap.size := ⟨_, rfl⟩
      obtain ⟨gz, hgz⟩ : ∃ b, b = w3.heap.size := ⟨_, rfl⟩
      obtain ⟨B, hB⟩ : ∃ b, b = V.heap.size := ⟨_, rfl⟩
      rw [← hbo, ← hgz, ← hB] at HI0
      rw [← hbo, ← hgz] at HBO
      rw [← hbo] at HBM
      rw [← hgz] at HZV
      rw [← hbo, ← hgz]
      clear hV hbV hb3 hVs HS3 HC3 HQ3 HQL HCL HW3 HSW HB4 HSZ HZ4 hbo hgz hB
      go_wp2_with fail
      have HZN : Hid (∀ j, j < (List.replicate cnt (0 : Int)).length → idxB ((List.replicate cnt (0 : Int)).getD j 0) 100 = true) := Lib.hid fun j hj => by
        rw [List.length_replicate] at hj
        rw [List.getD_eq_getElem?_getD, List.getElem?_replicate, if_pos hj]
        rfl
      go_loopw [15] (fun x wr => ∃ (i : Nat) (zs : List Int), i ≤ g.ns.length ∧ x = .int .i64 (i : Int) ∧ zs.length = cnt ∧ (∀ j, j < i → zs.getD (cl ys j) 0 = g.ns.getD j 0) ∧ (∀ j, j < zs.length → idxB (zs.getD j 0) 100 = true) ∧ ImS g An cn Ae ce w (.slice qa qs.length qd) (.slice ca cs.length cd) qs cs B gz bo (bo + 1) wr ∧ wr.heap[bo]? = some (.cells #[.slice (some ⟨gz, 0, none⟩) cnt cnt, .slice none 0 0] 25 (0, 0)) ∧ wr.heap[bo + 1]? = some (.cells #[.slice qa qs.length qd, .slice none 0 0] 27 (0, 0)) ∧ OwnI wr gz (.slice (some ⟨gz, 0, none⟩) cnt cnt) zs) (fun x _ => g.ns.length - (intOf x).toNat)
      case atStart => exact ⟨0, _, Nat.zero_le _, rfl, by simp, fun j h => by omega, HZN.out, HI0.out, HBO.out, HBM.out, HZV.out⟩
      case round =>
        obtain ⟨i, zs, hi, rfl, hzl, hzs, hzn, hI, hO, hM, hZ⟩ := hrel
        have HI := Lib.hid hI
        have HO := Lib.hid hO
        have HMB := Lib.hid hM
        have HZ := Lib.hid hZ
        have HZS := Lib.hid hzs
        have HZI := Lib.hid hzn
        have c0 := hI.sv.cell (i := 0) (j := 0) rfl rfl
        simp only [Nat.add_zero] at c0
        clear HI0 HBO HBM HZV hzs hzn
        by_cases hlt : i < g.ns.length
        · obtain ⟨gn, on, rfl, hgn, hcn⟩ := Ints.cells (HT.out.ns.below hI.sv.1) hlt
          have e2 := hcn i hlt
          have hci := HCLT.out i hlt
          have hqp : 0 < qs.length := by rw [HQE.out]; omega
          obtain ⟨qb, qk, eq1, hq1, _⟩ := OwnE.pos hI.rq hqp
          injection eq1 with eq2 eq4 eq3
          subst eq2 eq3
          have eq := OwnI.cell rfl hI.rq (j := i) (by rw [HQE.out]; exact hlt)
          rw [HQA.out i hlt] at eq
          have HPU := Lib.hid (HPUT.out zs i hlt hzl)
          have hgi : idxB (g.ns.getD i 0) 100 = true := idxB_iff.2 ((valid_zero HVV.out).2.2.1 _ (getD_mem hlt))
          have HZJ := Lib.hid (zs_in (c := cl ys i) hgi HZI.out)
          have b0 := (cell2 hO).1
          have z0 := OwnI.cell hzl.symm hZ hci
          have fz := OwnI.free hzl.symm hZ (cl ys i)
          have HQN : Hid (qb ≠ gz) := Lib.hid (hI.nq qb rfl).2.1
          have HGN : Hid (gn ≠ gz) := Lib.hid (by have := hI.ng; omega)
          have HNG := Lib.hid hI.ng
          have HLT := Lib.hid hlt
          have HM4 : Hid (g.ns.length - ((i : Int) + 1).toNat < g.ns.length - ((i : Int)).toNat) := Lib.hid (by omega)
          have HZL := Lib.hid hzl
          have i0 : (0 : Int) ≤ (i : Int) := by omega
          have i1 : (i : Int) < (g.ns.length : Int) := by omega
          have i1' : (i : Int) < (qs.length : Int) := by rw [HQE.out]; omega
          have i2 : ((i : Int)).toNat = i := by omega
          clear hcn hgn hI hO hM hZ hq1 eq4 hgi hqp
          generalize cl ys i = c at *
          generalize g.ns.getD i 0 = xi at *
          have j0 : (0 : Int) ≤ (c : Int) := by omega
          have j1 : (c : Int) < (cnt : Int) := by omega
          have j2 : ((c : Int)).toNat = c := by omega
          have HSD : Hid ((fun u0 : World => u0.cell? ⟨bo, 0, none⟩ = some (.slice (some ⟨gz, 0, none⟩) cnt cnt) ∧ u0.cell? ⟨qb, i, none⟩ = some (.int .i64 (c : Int)) ∧ u0.cell? ⟨w.heap.size, 0, none⟩ = some (.slice (some ⟨gn, on, none⟩) g.ns.length cn) ∧ u0.cell? ⟨gn, on + i, none⟩ = some (.int .i64 xi)) wr.drew) := Lib.hid ⟨cell_up (below_d _) b0, cell_up (below_d _) eq, cell_up (below_d _) c0, cell_up (below_d _) e2⟩
          have HID := Lib.hid (HI.out.up (below_d wr))
          have HOD := Lib.hid (heap_up (below_d wr) HO.out)
          have HMD := Lib.hid (heap_up (below_d wr) HMB.out)
          have HZD := Lib.hid (OwnE.below HZ.out (below_d wr) (Nat.le_refl _))
          go_wp2_with fail
          clear b0 eq c0 e2 HI HO HMB HZ z0 fz
          refine wp_region_noPanic ?_
          refine wp_region_held_drew (S := (fun u0 : World => u0.cell? ⟨bo, 0, none⟩ = some (.slice (some ⟨gz, 0, none⟩) cnt cnt) ∧ u0.cell? ⟨qb, i, none⟩ = some (.int .i64 (c : Int)) ∧ u0.cell? ⟨w.heap.size, 0, none⟩ = some (.slice (some ⟨gn, on, none⟩) g.ns.length cn) ∧ u0.cell? ⟨gn, on + i, none⟩ = some (.int .i64 xi))) (by kernel_rfl) (HSD.out) (fun hHeld => ?_)
          generalize wr.drew = wd at *
          refine wpAnyH_take (i := 0) (v := ?_) (oper_at (r := _) rfl) (by kernel_rfl) (by kernel_rfl) (by kernel_rfl) (fun _ _ _ h => h) (Or.inl ⟨by rfl, ?_⟩) (by assumption) ?_
          rotate_left
          · intro w hSw; try dsimp only at hSw
            go_simp
            try with_reducible rfl
          try simp only [Act.put, List.setIfInBounds_toArray, List.set_cons_zero, List.set_cons_succ]
          refine wpAnyH_take (i := 1) (v := ?_) (oper_at (r := _) rfl) (by kernel_rfl) (by kernel_rfl) (by kernel_rfl) (fun _ _ _ h => h) (Or.inl ⟨by rfl, ?_⟩) (by assumption) ?_
          rotate_left
          · intro w hSw; try dsimp only at hSw
            go_simp
            try with_reducible rfl
          try simp only [Act.put, List.setIfInBounds_toArray, List.set_cons_zero, List.set_cons_succ]
          refine wpAnyH_take (i := 2) (v := ?_) (oper_at (r := _) rfl) (by kernel_rfl) (by kernel_rfl) (by kernel_rfl) (fun _ _ _ h => h) (Or.inl ⟨by rfl, ?_⟩) (by assumption) ?_
          rotate_left
          · intro w hSw; try dsimp only at hSw
            go_simp
            try with_reducible rfl
          try simp only [Act.put, List.setIfInBounds_toArray, List.set_cons_zero, List.set_cons_succ]
          refine wpAnyH_take (i := 3) (v := ?_) (oper_at (r := _) rfl) (by kernel_rfl) (by kernel_rfl) (by kernel_rfl) (fun _ _ _ h => h) (Or.inl ⟨by rfl, ?_⟩) (by assumption) ?_
          rotate_left
          · intro w hSw; try dsimp only at hSw
            go_simp
            try with_reducible rfl
          try simp only [Act.put, List.setIfInBounds_toArray, List.set_cons_zero, List.set_cons_succ]
          refine wpAnyH_take (i := 4) (v := ?_) (oper_at (r := _) rfl) (by kernel_rfl) (by kernel_rfl) (by kernel_rfl) (fun _ _ _ h => h) (Or.inl ⟨by rfl, ?_⟩) (by assumption) ?_
          rotate_left
          · intro w hSw; try dsimp only at hSw
            go_simp
            try with_reducible rfl
          try simp only [Act.put, List.setIfInBounds_toArray, List.set_cons_zero, List.set_cons_succ]
          refine wpAnyH_take (i := 5) (v := ?_) (oper_at (r := _) rfl) (by kernel_rfl) (by kernel_rfl) (by kernel_rfl) (fun _ _ _ h => h) (Or.inl ⟨by rfl, ?_⟩) (by assumption) ?_
          rotate_left
          · intro w hSw; try dsimp only at hSw
            go_simp
            try with_reducible rfl
          try simp only [Act.put, List.setIfInBounds_toArray, List.set_cons_zero, List.set_cons_succ]
          refine wpAnyH_take (i := 6) (v := ?_) (oper_at (r := _) rfl) (by kernel_rfl) (by kernel_rfl) (by kernel_rfl) (fun _ _ _ h => h) (Or.inl ⟨by rfl, ?_⟩) (by assumption) ?_
          rotate_left
          · intro w hSw; try dsimp only at hSw
            go_simp
            try with_reducible rfl
          try simp only [Act.put, List.setIfInBounds_toArray, List.set_cons_zero, List.set_cons_succ]
          refine wpAnyH_take (i := 7) (v := ?_) (oper_at (r := _) rfl) (by kernel_rfl) (by kernel_rfl) (by kernel_rfl) (fun _ _ _ h => h) (Or.inl ⟨by rfl, ?_⟩) (by assumption) ?_
          rotate_left
          · intro w hSw; try dsimp only at hSw
            go_simp
            try with_reducible rfl
          try simp only [Act.put, List.setIfInBounds_toArray, List.set_cons_zero, List.set_cons_succ]
          refine wpAnyH_take (i := 8) (v := ?_) (oper_at (r := _) rfl) (by kernel_rfl) (by kernel_rfl) (by kernel_rfl) (fun _ _ _ h => h) (Or.inl ⟨by rfl, ?_⟩) (by assumption) ?_
          rotate_left
          · intro w hSw; try dsimp only at hSw
            go_simp
            try with_reducible rfl
          try simp only [Act.put, List.setIfInBounds_toArray, List.set_cons_zero, List.set_cons_succ]
          refine wpAnyH_take (i := 9) (v := ?_) (oper_at (r := _) rfl) (by kernel_rfl) (by kernel_rfl) (by kernel_rfl) (fun _ _ _ h => h) (Or.inl ⟨by rfl, ?_⟩) (by assumption) ?_
          rotate_left
          · intro w hSw; try dsimp only at hSw
            go_simp
            try with_reducible rfl
          try simp only [Act.put, List.setIfInBounds_toArray, List.set_cons_zero, List.set_cons_succ]
          refine wpAnyH_take (i := 10) (v := ?_) (oper_at (r := _) rfl) (by kernel_rfl) (by kernel_rfl) (by kernel_rfl) (fun _ _ _ h => h) (Or.inl ⟨by rfl, ?_⟩) (by assumption) ?_
          rotate_left
          · intro w hSw; try dsimp only at hSw
            go_simp
            try with_reducible rfl
          try simp only [Act.put, List.setIfInBounds_toArray, List.set_cons_zero, List.set_cons_succ]
          refine wpAnyH_take (i := 11) (v := ?_) (oper_at (r := _) rfl) (by kernel_rfl) (by kernel_rfl) (by kernel_rfl) (fun _ _ _ h => h) (Or.inl ⟨by rfl, ?_⟩) (by assumption) ?_
          rotate_left
          · intro w hSw; try dsimp only at hSw
            go_simp
            try with_reducible rfl
          try simp only [Act.put, List.setIfInBounds_toArray, List.set_cons_zero, List.set_cons_succ]
          have z0 := OwnI.cell HZL.out.symm HZD.out hci
          have fz := OwnI.free HZL.out.symm HZD.out c
          have hset := OwnI.set HZL.out.symm HZD.out c xi
          have HSE := Lib.hid hset.1
          have hoth : ∀ b, b ≠ gz → (wd.setCell ⟨gz, c, none⟩ (.int .i64 xi)).heap[b]? = wd.heap[b]? := fun b hb => heap_setCell_other _ _ _ _ hb
          have hbz : Below w.heap.size w (wd.setCell ⟨gz, c, none⟩ (.int .i64 xi)) := HID.out.sv.1.setCell (p := ⟨gz, c, none⟩) (by have := HNG.out; show w.heap.size ≤ gz; omega) _
          have HIE := Lib.hid (HID.out.keep hbz (by simp) fun b _ h _ _ => hoth b h)
          have HOE := Lib.hid ((hoth bo (by have := HNG.out; omega)).trans HOD.out)
          have HME := Lib.hid ((hoth (bo + 1) (by have := HNG.out; omega)).trans HMD.out)
          have far : ∀ {b o : Nat} {v : Value}, b ≠ gz → wd.cell? ⟨b, o, none⟩ = some v → (wd.setCell ⟨gz, c, none⟩ (.int .i64 xi)).cell? ⟨b, o, none⟩ = some v := fun {b o v} hb h => by
            rw [World.cell?_setCell_far _ _ _ _ (fun e => hb e.symm)]
            exact h
          have HSE2 : Hid ((fun u0 : World => u0.cell? ⟨bo, 0, none⟩ = some (.slice (some ⟨gz, 0, none⟩) cnt cnt) ∧ u0.cell? ⟨qb, i, none⟩ = some (.int .i64 (c : Int)) ∧ u0.cell? ⟨w.heap.size, 0, none⟩ = some (.slice (some ⟨gn, on, none⟩) g.ns.length cn) ∧ u0.cell? ⟨gn, on + i, none⟩ = some (.int .i64 xi)) (wd.setCell ⟨gz, c, none⟩ (.int .i64 xi))) := Lib.hid ⟨far (by have := HNG.out; omega) HSD.out.1, far HQN.out HSD.out.2.1, far (by have := HNG.out; omega) HSD.out.2.2.1, far HGN.out HSD.out.2.2.2⟩
          clear hset hbz hoth far
          refine wpAnyH_ready (rs := [12]) (by kernel_rfl) (by simp) ?_
          refine AllReadyH.cons (oper_at (r := _) rfl) (fun K hK => ?_) AllReadyH.nil
          go_simp
          refine hK.out _ _ (HSE2.out) (fun _ => ?_)
          clear hK K
          try simp only [Act.put, List.setIfInBounds_toArray, List.set_cons_zero, List.set_cons_succ]
          refine wpAnyH_done (by kernel_rfl) ?_ _
          refine NoPanic.normal ?_
          clear z0 fz
          go_wp2_with fail
          go_roundw
          case rel => exact ⟨i + 1, _, HLT.out, by go_num, by rw [List.length_set]; exact HZL.out, HPU.out HZS.out, HZJ.out, HIE.out, HOE.out, HME.out, HSE.out⟩
          case measure => exact HM4.out
        · have hin : i = g.ns.length := by omega
          clear hlt
          subst hin
          have HT0 := Lib.hid (show ImT g An cn Ae ce w (.slice qa qs.length qd) (.slice ca cs.length cd) qs cs B gz bo (bo + 1) cnt zs [] [] (.slice none 0 0) (.slice none 0 0) wr from ⟨HI.out, HO.out, HMB.out, HZ.out, OwnE.nil _ _ _, OwnE.nil _ _ _⟩)
          have HJ0 := Lib.hid (ImJ.nil g ys)
          have HZL := Lib.hid hzl
          clear hI hO hM hZ HI HO HMB HZ hzl HPUT HCLT
          go_wp2_with fail
          clear c0
          go_loopw [16] (fun x wq => ∃ (i : Nat) (xs : List Ed) (ms : List Int) (ve vm : Value), i ≤ g.es.length ∧ x = .int .i64 (i : Int) ∧ ImJ g ys i xs ms ∧ ImT g An cn Ae ce w (.slice qa qs.length qd) (.slice ca cs.length cd) qs cs B gz bo (bo + 1) cnt zs xs ms ve vm wq) (fun x _ => g.es.length - (intOf x).toNat)
          case atStart => exact ⟨0, _, _, _, _, Nat.zero_le _, rfl, HJ0.out, HT0.out⟩
          case round =>
            obtain ⟨i, xs, ms, ve, vm, hi, rfl, hJ, hTT⟩ := hrel
            have HJ := Lib.hid hJ
            have HTT := Lib.hid hTT
            have c1 := hTT.s.sv.cell (i := 0) (j := 1) rfl rfl
            simp only [Nat.add_zero] at c1
            clear HT0 HJ0
            by_cases hlt : i < g.es.length
            · obtain ⟨g2, o2, rfl, hg2, hc2⟩ := Eds.cells (HT.out.es.below hTT.s.sv.1) hlt
              obtain ⟨d1, d2, d3⟩ := hc2 i hlt
              have hva := valid_at HVV.out hlt
              have HIM : Hid (imE g ys i = ⟨(g.es.getD i default).ty, cl ys (g.es.getD i default).fr.toNat, cl ys (g.es.getD i default).tq.toNat⟩) := Lib.hid rfl
              have HADD2 := Lib.hid (fun (h : i < g.es.length) => HADD.out i xs ms HJ.out h)
              have HOLD := Lib.hid (fun t (ht : t < xs.length) (he : xs.getD t default = imE g ys i) => HJ.out.old ht he)
              have HLX : Hid (xs.length ≤ i ∧ ms.length = i) := Lib.hid ⟨hJ.lx, hJ.lm⟩
              have HLT := Lib.hid hlt
              have HM4 : Hid (g.es.length - ((i : Int) + 1).toNat < g.es.length - ((i : Int)).toNat) := Lib.hid (by omega)
              have i0 : (0 : Int) ≤ (i : Int) := by omega
              have i1 : (i : Int) < (g.es.length : Int) := by omega
              have i2 : ((i : Int)).toNat = i := by omega
              clear hc2 hg2 hlt hJ
              generalize g.es.getD i default = xa at *
              obtain ⟨ty, fr, tt⟩ := xa
              dsimp only at *
              obtain ⟨F, hF⟩ : ∃ F : Nat, fr = (F : Int) := ⟨fr.toNat, by omega⟩
              obtain ⟨T, hTT2⟩ : ∃ T : Nat, tt = (T : Int) := ⟨tt.toNat, by omega⟩
              subst hF hTT2
              have hFn : F < g.ns.length := by omega
              have hTn : T < g.ns.length := by omega
              rw [Int.toNat_natCast, Int.toNat_natCast] at HIM
              obtain ⟨qb, qk, eq1, hq1, _⟩ := OwnE.pos hTT.s.rq (by rw [HQE.out]; omega)
              injection eq1 with eq2 eq4 eq3
              subst eq2 eq3
              have m1 := OwnI.cell rfl hTT.s.rq (j := F) (by rw [HQE.out]; exact hFn)
              have m2 := OwnI.cell rfl hTT.s.rq (j := T) (by rw [HQE.out]; exact hTn)
              rw [HQA.out F hFn] at m1
              rw [HQA.out T hTn] at m2
              have f0 : (0 : Int) ≤ (F : Int) := by omega
              have f1 : (F : Int) < (qs.length : Int) := by rw [HQE.out]; omega
              have f2 : ((F : Int)).toNat = F := by omega
              have T0 : (0 : Int) ≤ (T : Int) := by omega
              have T1 : (T : Int) < (qs.length : Int) := by rw [HQE.out]; omega
              have T2 : ((T : Int)).toNat = T := by omega
              clear hTT hva hFn hTn eq4 hq1
              generalize cl ys F = cF at *
              generalize cl ys T = cT at *
              have HM : Hid (∀ W, Below wr.drew.heap.size wr.drew W → (fun u0 : World => u0.cell? ⟨w.heap.size, 1, none⟩ = some (.slice (some ⟨g2, o2, none⟩) g.es.length ce) ∧ u0.cell? ⟨g2, o2 + i * 3, none⟩ = some (.int .i64 ty) ∧ u0.cell? ⟨g2, o2 + i * 3 + 1, none⟩ = some (.int .i64 (F : Int)) ∧ u0.cell? ⟨g2, o2 + i * 3 + 2, none⟩ = some (.int .i64 (T : Int)) ∧ u0.cell? ⟨qb, F, none⟩ = some (.int .i64 (cF : Int)) ∧ u0.cell? ⟨qb, T, none⟩ = some (.int .i64 (cT : Int))) W) := Lib.hid fun W hb => ⟨cell_up hb (cell_up (below_d _) c1), cell_up hb (cell_up (below_d _) d1), cell_up hb (cell_up (below_d _) d2), cell_up hb (cell_up (below_d _) d3), cell_up hb (cell_up (below_d _) m1), cell_up hb (cell_up (below_d _) m2)⟩
              have HTD := Lib.hid (HTT.out.up (below_d wr))
              have BW := Lib.hid (Below.refl wr.drew.heap.size wr.drew)
              go_wp2_with fail
              clear c1 d1 d2 d3 m1 m2 HTT
              refine wp_region_noPanic ?_
              refine wp_region_held_drew (S := (fun u0 : World => u0.cell? ⟨w.heap.size, 1, none⟩ = some (.slice (some ⟨g2, o2, none⟩) g.es.length ce) ∧ u0.cell? ⟨g2, o2 + i * 3, none⟩ = some (.int .i64 ty) ∧ u0.cell? ⟨g2, o2 + i * 3 + 1, none⟩ = some (.int .i64 (F : Int)) ∧ u0.cell? ⟨g2, o2 + i * 3 + 2, none⟩ = some (.int .i64 (T : Int)) ∧ u0.cell? ⟨qb, F, none⟩ = some (.int .i64 (cF : Int)) ∧ u0.cell? ⟨qb, T, none⟩ = some (.int .i64 (cT : Int)))) (by kernel_rfl) (HM.out _ BW.out) (fun hHeld => ?_)
              generalize wr.drew = wd at *
              refine wpAnyH_take (i := 0) (v := ?_) (oper_at (r := _) rfl) (by kernel_rfl) (by kernel_rfl) (by kernel_rfl) (fun _ _ _ h => h) (Or.inl ⟨by rfl, ?_⟩) (by assumption) ?_
              rotate_left
              · intro w hSw; try dsimp only at hSw
                go_simp
                try with_reducible rfl
              try simp only [Act.put, List.setIfInBounds_toArray, List.set_cons_zero, List.set_cons_succ]
              refine wpAnyH_take (i := 1) (v := ?_) (oper_at (r := _) rfl) (by kernel_rfl) (by kernel_rfl) (by kernel_rfl) (fun _ _ _ h => h) (Or.inl ⟨by rfl, ?_⟩) (by assumption) ?_
              rotate_left
              · intro w hSw; try dsimp only at hSw
                go_simp
                try with_reducible rfl
              try simp only [Act.put, List.setIfInBounds_toArray, List.set_cons_zero, List.set_cons_succ]
              refine wpAnyH_take (i := 2) (v := ?_) (oper_at (r := _) rfl) (by kernel_rfl) (by kernel_rfl) (by kernel_rfl) (fun _ _ _ h => h) (Or.inl ⟨by rfl, ?_⟩) (by assumption) ?_
              rotate_left
              · intro w hSw; try dsimp only at hSw
                go_simp
                try with_reducible rfl
              try simp only [Act.put, List.setIfInBounds_toArray, List.set_cons_zero, List.set_cons_succ]
              refine wpAnyH_take (i := 3) (v := ?_) (oper_at (r := _) rfl) (by kernel_rfl) (by kernel_rfl) (by kernel_rfl) (fun _ _ _ h => h) (Or.inl ⟨by rfl, ?_⟩) (by assumption) ?_
              rotate_left
              · intro w hSw; try dsimp only at hSw
                go_simp
                try with_reducible rfl
              try simp only [Act.put, List.setIfInBounds_toArray, List.set_cons_zero, List.set_cons_succ]
              refine wpAnyH_take (i := 4) (v := ?_) (oper_at (r := _) rfl) (by kernel_rfl) (by kernel_rfl) (by kernel_rfl) (fun _ _ _ h => h) (Or.inl ⟨by rfl, ?_⟩) (by assumption) ?_
              rotate_left
              · intro w hSw; try dsimp only at hSw
                go_simp
                try with_reducible rfl
              try simp only [Act.put, List.setIfInBounds_toArray, List.set_cons_zero, List.set_cons_succ]
              refine wpAnyH_take (i := 5) (v := ?_) (oper_at (r := _) rfl) (by kernel_rfl) (by kernel_rfl) (by kernel_rfl) (fun _ _ _ h => h) (Or.inl ⟨by rfl, ?_⟩) (by assumption) ?_
              rotate_left
              · intro w hSw; try dsimp only at hSw
                go_simp
                try with_reducible rfl
              try simp only [Act.put, List.setIfInBounds_toArray, List.set_cons_zero, List.set_cons_succ]
              refine wpAnyH_take (i := 6) (v := ?_) (oper_at (r := _) rfl) (by kernel_rfl) (by kernel_rfl) (by kernel_rfl) (fun _ _ _ h => h) (Or.inl ⟨by rfl, ?_⟩) (by assumption) ?_
              rotate_left
              · intro w hSw; try dsimp only at hSw
                go_simp
                try with_reducible rfl
              try simp only [Act.put, List.setIfInBounds_toArray, List.set_cons_zero, List.set_cons_succ]
              refine wpAnyH_take (i := 7) (v := ?_) (oper_at (r := _) rfl) (by kernel_rfl) (by kernel_rfl) (by kernel_rfl) (fun _ _ _ h => h) (Or.inl ⟨by rfl, ?_⟩) (by assumption) ?_
              rotate_left
              · intro w hSw; try dsimp only at hSw
                go_simp
                try with_reducible rfl
              try simp only [Act.put, List.setIfInBounds_toArray, List.set_cons_zero, List.set_cons_succ]
              refine wpAnyH_take (i := 8) (v := ?_) (oper_at (r := _) rfl) (by kernel_rfl) (by kernel_rfl) (by kernel_rfl) (fun _ _ _ h => h) (Or.inl ⟨by rfl, ?_⟩) (by assumption) ?_
              rotate_left
              · intro w hSw; try dsimp only at hSw
                go_simp
                try with_reducible rfl
              try simp only [Act.put, List.setIfInBounds_toArray, List.set_cons_zero, List.set_cons_succ]
              refine wpAnyH_take (i := 9) (v := ?_) (oper_at (r := _) rfl) (by kernel_rfl) (by kernel_rfl) (by kernel_rfl) (fun _ _ _ h => h) (Or.inl ⟨by rfl, ?_⟩) (by assumption) ?_
              rotate_left
              · intro w hSw; try dsimp only at hSw
                go_simp
                try with_reducible rfl
              try simp only [Act.put, List.setIfInBounds_toArray, List.set_cons_zero, List.set_cons_succ]
              refine wpAnyH_take (i := 10) (v := ?_) (oper_at (r := _) rfl) (by kernel_rfl) (by kernel_rfl) (by kernel_rfl) (fun _ _ _ h => h) (Or.inl ⟨by rfl, ?_⟩) (by assumption) ?_
              rotate_left
              · intro w hSw; try dsimp only at hSw
                go_simp
                try with_reducible rfl
              try simp only [Act.put, List.setIfInBounds_toArray, List.set_cons_zero, List.set_cons_succ]
              refine wpAnyH_take (i := 11) (v := ?_) (oper_at (r := _) rfl) (by kernel_rfl) (by kernel_rfl) (by kernel_rfl) (fun _ _ _ h => h) (Or.inl ⟨by rfl, ?_⟩) (by assumption) ?_
              rotate_left
              · intro w hSw; try dsimp only at hSw
                go_simp
                try with_reducible rfl
              try simp only [Act.put, List.setIfInBounds_toArray, List.set_cons_zero, List.set_cons_succ]
              refine wpAnyH_take (i := 12) (v := ?_) (oper_at (r := _) rfl) (by kernel_rfl) (by kernel_rfl) (by kernel_rfl) (fun _ _ _ h => h) (Or.inl ⟨by rfl, ?_⟩) (by assumption) ?_
              rotate_left
              · intro w hSw; try dsimp only at hSw
                go_simp
                try with_reducible rfl
              try simp only [Act.put, List.setIfInBounds_toArray, List.set_cons_zero, List.set_cons_succ]
              refine wpAnyH_take (i := 13) (v := ?_) (oper_at (r := _) rfl) (by kernel_rfl) (by kernel_rfl) (by kernel_rfl) (fun _ _ _ h => h) (Or.inl ⟨by rfl, ?_⟩) (by assumption) ?_
              rotate_left
              · intro w hSw; try dsimp only at hSw
                go_simp
                try with_reducible rfl
              try simp only [Act.put, List.setIfInBounds_toArray, List.set_cons_zero, List.set_cons_succ]
              refine wpAnyH_take (i := 14) (v := ?_) (oper_at (r := _) rfl) (by kernel_rfl) (by kernel_rfl) (by kernel_rfl) (fun _ _ _ h => h) (Or.inl ⟨by rfl, ?_⟩) (by assumption) ?_
              rotate_left
              · intro w hSw; try dsimp only at hSw
                go_simp
                try with_reducible rfl
              try simp only [Act.put, List.setIfInBounds_toArray, List.set_cons_zero, List.set_cons_succ]
              refine wpAnyH_take (i := 15) (v := ?_) (oper_at (r := _) rfl) (by kernel_rfl) (by kernel_rfl) (by kernel_rfl) (fun _ _ _ h => h) (Or.inl ⟨by rfl, ?_⟩) (by assumption) ?_
              rotate_left
              · intro w hSw; try dsimp only at hSw
                go_simp
                try with_reducible rfl
              try simp only [Act.put, List.setIfInBounds_toArray, List.set_cons_zero, List.set_cons_succ]
              refine wpAnyH_take (i := 16) (v := ?_) (oper_at (r := _) rfl) (by kernel_rfl) (by kernel_rfl) (by kernel_rfl) (fun _ _ _ h => h) (Or.inl ⟨by rfl, ?_⟩) (by assumption) ?_
              rotate_left
              · intro w hSw; try dsimp only at hSw
                go_simp
                try with_reducible rfl
              try simp only [Act.put, List.setIfInBounds_toArray, List.set_cons_zero, List.set_cons_succ]
              refine wpAnyH_take (i := 17) (v := ?_) (oper_at (r := _) rfl) (by kernel_rfl) (by kernel_rfl) (by kernel_rfl) (fun _ _ _ h => h) (Or.inl ⟨by rfl, ?_⟩) (by assumption) ?_
              rotate_left
              · intro w hSw; try dsimp only at hSw
                go_simp
                try with_reducible rfl
              try simp only [Act.put, List.setIfInBounds_toArray, List.set_cons_zero, List.set_cons_succ]
              refine wpAnyH_take (i := 18) (v := ?_) (oper_at (r := _) rfl) (by kernel_rfl) (by kernel_rfl) (by kernel_rfl) (fun _ _ _ h => h) (Or.inl ⟨by rfl, ?_⟩) (by assumption) ?_
              rotate_left
              · intro w hSw; try dsimp only at hSw
                go_simp
                try with_reducible rfl
              try simp only [Act.put, List.setIfInBounds_toArray, List.set_cons_zero, List.set_cons_succ]
              refine wpAnyH_take (i := 19) (v := ?_) (oper_at (r := _) rfl) (by kernel_rfl) (by kernel_rfl) (by kernel_rfl) (fun _ _ _ h => h) (Or.inl ⟨by rfl, ?_⟩) (by assumption) ?_
              rotate_left
              · intro w hSw; try dsimp only at hSw
                go_simp
                try with_reducible rfl
              try simp only [Act.put, List.setIfInBounds_toArray, List.set_cons_zero, List.set_cons_succ]
              refine wpAnyH_take (i := 20) (v := ?_) (oper_at (r := _) rfl) (by kernel_rfl) (by kernel_rfl) (by kernel_rfl) (fun _ _ _ h => h) (Or.inl ⟨by rfl, ?_⟩) (by assumption) ?_
              rotate_left
              · intro w hSw; try dsimp only at hSw
                go_simp
                try with_reducible rfl
              try simp only [Act.put, List.setIfInBounds_toArray, List.set_cons_zero, List.set_cons_succ]
              refine wpAnyH_take (i := 21) (v := ?_) (oper_at (r := _) rfl) (by kernel_rfl) (by kernel_rfl) (by kernel_rfl) (fun _ _ _ h => h) (Or.inl ⟨by rfl, ?_⟩) (by assumption) ?_
              rotate_left
              · intro w hSw; try dsimp only at hSw
                go_simp
                try with_reducible rfl
              try simp only [Act.put, List.setIfInBounds_toArray, List.set_cons_zero, List.set_cons_succ]
              refine wpAnyH_take (i := 22) (v := ?_) (oper_at (r := _) rfl) (by kernel_rfl) (by kernel_rfl) (by kernel_rfl) (fun _ _ _ h => h) (Or.inl ⟨by rfl, ?_⟩) (by assumption) ?_
              rotate_left
              · intro w hSw; try dsimp only at hSw
                go_simp
                try with_reducible rfl
              try simp only [Act.put, List.setIfInBounds_toArray, List.set_cons_zero, List.set_cons_succ]
              refine wpAnyH_take (i := 23) (v := ?_) (oper_at (r := _) rfl) (by kernel_rfl) (by kernel_rfl) (by kernel_rfl) (fun _ _ _ h => h) (Or.inl ⟨by rfl, ?_⟩) (by assumption) ?_
              rotate_left
              · intro w hSw; try dsimp only at hSw
                go_simp
                try with_reducible rfl
              try simp only [Act.put, List.setIfInBounds_toArray, List.set_cons_zero, List.set_cons_succ]
              refine wpAnyH_take (i := 24) (v := ?_) (oper_at (r := _) rfl) (by kernel_rfl) (by kernel_rfl) (by kernel_rfl) (fun _ _ _ h => h) (Or.inl ⟨by rfl, ?_⟩) (by assumption) ?_
              rotate_left
              · intro w hSw; try dsimp only at hSw
                go_simp
                try with_reducible rfl
              try simp only [Act.put, List.setIfInBounds_toArray, List.set_cons_zero, List.set_cons_succ]
              obtain ⟨gx, hgx⟩ : ∃ g, g = wd.heap.size := ⟨_, rfl⟩
              have lgx : wd.heap.size ≤ gx := by rw [hgx]; exact Nat.le_refl _
              have BW1 := BW.out.alloc (Nat.le_refl _) (.cells #[.int .i64 0, .int .i64 0, .int .i64 0] 65)
              have XW1 := heap_alloc_new wd (.cells #[.int .i64 0, .int .i64 0, .int .i64 0] 65)
              rw [← hgx] at XW1
              refine wpAnyH_ready (rs := [25]) (by kernel_rfl) (by simp) ?_
              refine AllReadyH.cons (oper_at (r := _) rfl) (fun K hK => ?_) AllReadyH.nil
              go_simp
              refine hK.out _ _ (HM.out _ BW1) (fun _ => ?_)
              clear hK K
              try simp only [Act.put, List.setIfInBounds_toArray, List.set_cons_zero, List.set_cons_succ]
              generalize wd.alloc (.cells #[.int .i64 0, .int .i64 0, .int .i64 0] 65) = W1 at *
              rw [← hgx]
              clear hgx
              obtain ⟨s0, s1, s2⟩ := cell3 XW1
              have fz0 : W1.frozen? ⟨gx, 0, none⟩ = false := frozen_of_row _ _ _ _ _ XW1
              have fz1 : W1.frozen? ⟨gx, 1, none⟩ = false := frozen_of_row _ _ _ _ _ XW1
              have fz2 : W1.frozen? ⟨gx, 2, none⟩ = false := frozen_of_row _ _ _ _ _ XW1
              have XW2 := set3R (x := .int .i64 ty) (y := .int .i64 (cF : Int)) (z := .int .i64 (cT : Int)) XW1
              have BW2 := ((BW1.setCell (p := ⟨gx, 0, none⟩) lgx (.int .i64 ty)).setCell (p := ⟨gx, 1, none⟩) lgx (.int .i64 (cF : Int))).setCell (p := ⟨gx, 2, none⟩) lgx (.int .i64 (cT : Int))
              refine wpAnyH_ready (rs := [26]) (by kernel_rfl) (by simp) ?_
              refine AllReadyH.cons (oper_at (r := _) rfl) (fun K hK => ?_) AllReadyH.nil
              go_simp
              refine hK.out _ _ (HM.out _ BW2) (fun _ => ?_)
              clear hK K
              try simp only [Act.put, List.setIfInBounds_toArray, List.set_cons_zero, List.set_cons_succ]
              clear s0 s1 s2 fz0 fz1 fz2
              have HT2 := Lib.hid (HTD.out.up BW2)
              generalize ((W1.setCell ⟨gx, 0, none⟩ (.int .i64 ty)).setCell ⟨gx, 1, none⟩ (.int .i64 (cF : Int))).setCell ⟨gx, 2, none⟩ (.int .i64 (cT : Int)) = W2 at *
              refine wpAnyH_done (by kernel_rfl) ?_ _
              refine NoPanic.normal ?_
              have HX2 := Lib.hid XW2
              clear XW2 BW2 XW1 BW1 HTD HM BW lgx
              go_wp2_with fail
              obtain ⟨xa, xd, hve⟩ := OwnE.slice HT2.out.e
              obtain ⟨ma, md, hvm⟩ := OwnE.slice HT2.out.r
              subst hve hvm
              obtain ⟨ye, hye⟩ : ∃ y, y = imE g ys i := ⟨_, rfl⟩
              rw [← hye] at HIM HADD2 HOLD
              have HI80 : Hid (i ≤ 80) := Lib.hid (by have := HLT.out; omega)
              clear hye i0 i1 i2 f0 f1 f2 T0 T1 T2 hi
              go_loopw [18, 19] (fun v y wq => ∃ k : Nat, k ≤ xs.length ∧ y = .int .i64 (k : Int) ∧ (v = .int .i64 (-1) ∨ ∃ t : Nat, v = .int .i64 (t : Int) ∧ t < xs.length ∧ xs.getD t default = ye) ∧ Below W2.heap.size W2 wq) (fun _ y _ => xs.length - (intOf y).toNat)
              case atStart => exact ⟨0, Nat.zero_le _, rfl, .inl rfl, Below.refl _ _⟩
              case round =>
                obtain ⟨k, hk, rfl, hat, hbq⟩ := hrel
                have HTQ := Lib.hid (HT2.out.up hbq)
                have HXQ := Lib.hid (heap_up hbq HX2.out)
                have HAT := Lib.hid hat
                have HBQ := Lib.hid hbq
                clear hat
                have b1 := (cell2 HTQ.out.o).2
                by_cases hkl : k < xs.length
                · obtain ⟨A0, k0, en, hre⟩ := OwnE.reads HTQ.out.e
                  injection en with en1 _ en2
                  subst en1 en2
                  obtain ⟨xb, xo, rfl, hxb, hcx⟩ := Eds.cells hre hkl
                  obtain ⟨e1, e2, e3⟩ := hcx k hkl
                  obtain ⟨x0, x1, x2⟩ := cell3 HXQ.out
                  have hpos := HN.out.p
                  obtain ⟨j, hj⟩ : ∃ j, j = (i + k) % cs.length := ⟨_, rfl⟩
                  have hjl : j < cs.length := by rw [hj]; exact Nat.mod_lt _ hpos
                  obtain ⟨gc, kc, ec, _, _⟩ := OwnE.pos HTQ.out.s.rc hpos
                  injection ec with ec1 ec2 ec3
                  subst ec1 ec3
                  have ck := OwnI.cell rfl HTQ.out.s.rc hjl
                  obtain ⟨r1, r2⟩ := HN.out.r j
                  obtain ⟨x, hx⟩ : ∃ x : Nat, cs.getD j 0 = (x : Int) := ⟨(cs.getD j 0).toNat, by omega⟩
                  rw [hx] at ck r2
                  obtain ⟨r, hr⟩ : ∃ r, r = x % 2 := ⟨_, rfl⟩
                  have m1 : Int.tmod ((i : Int) + (k : Int)) (cs.length : Int) = (j : Int) := by rw [Int.tmod_eq_emod_of_nonneg (by omega), hj]; rfl
                  have m2 : Int.tmod (x : Int) 2 = (r : Int) := by rw [Int.tmod_eq_emod_of_nonneg (by omega), hr]; rfl
                  have n1 : ¬ (cs.length : Int) = 0 := by omega
                  have j0 : (0 : Int) ≤ (j : Int) := by omega
                  have j1 : (j : Int) < (cs.length : Int) := by omega
                  have j2 : ((j : Int)).toNat = j := by omega
                  have k0' : (0 : Int) ≤ (k : Int) := by omega
                  have k1' : (k : Int) < (xs.length : Int) := by omega
                  have k2' : ((k : Int)).toNat = k := by omega
                  have l80 : xs.length ≤ 80 := by have := HLX.out; have := HI80.out; omega
                  have i80 : i ≤ 80 := HI80.out
                  have n0 : ¬ cs = [] := fun e => by rw [e] at hpos; simp at hpos
                  have hw : IntKind.i64.wrap ((i : Int) + (k : Int)) = (i : Int) + (k : Int) := IntWalk.i64_in _ (by omega)
                  have HM5 : Hid (xs.length - ((k : Int) + 1).toNat < xs.length - ((k : Int)).toNat) := Lib.hid (by omega)
                  have HKL := Lib.hid hkl
                  have HHIT := Lib.hid (fun (h : xs.getD k default = ye) => (show ((.int .i64 (k : Int) : Value) = .int .i64 (-1) ∨ ∃ t : Nat, (.int .i64 (k : Int) : Value) = .int .i64 (t : Int) ∧ t < xs.length ∧ xs.getD t default = ye) from .inr ⟨k, rfl, hkl, h⟩))
                  clear hcx hxb hre hj hx hr r1 r2 ec2 hpos hkl hk
                  generalize xs.getD k default = xx at *
                  obtain ⟨ty2, fr2, tt2⟩ := xx
                  dsimp only at *
                  have HSD : Hid ((fun u0 : World => u0.cell? ⟨bo, 1, none⟩ = some (.slice (some ⟨xb, xo, none⟩) xs.length xd) ∧ u0.cell? ⟨xb, xo + k * 3, none⟩ = some (.int .i64 ty2) ∧ u0.cell? ⟨xb, xo + k * 3 + 1, none⟩ = some (.int .i64 fr2) ∧ u0.cell? ⟨xb, xo + k * 3 + 2, none⟩ = some (.int .i64 tt2) ∧ u0.cell? ⟨gx, 0, none⟩ = some (.int .i64 ty) ∧ u0.cell? ⟨gx, 1, none⟩ = some (.int .i64 (cF : Int)) ∧ u0.cell? ⟨gx, 2, none⟩ = some (.int .i64 (cT : Int)) ∧ u0.cell? ⟨gc, j, none⟩ = some (.int .i64 (x : Int))) wr.drew) := Lib.hid ⟨cell_up (below_d _) b1, cell_up (below_d _) e1, cell_up (below_d _) e2, cell_up (below_d _) e3, cell_up (below_d _) x0, cell_up (below_d _) x1, cell_up (below_d _) x2, cell_up (below_d _) ck⟩
                  have HBD := Lib.hid (HBQ.out.trans ((below_d wr).mono HBQ.out.size))
                  go_wp2_with fail
                  clear b1 e1 e2 e3 x0 x1 x2 ck HXQ HTQ hbq
                  refine wp_region_noPanic ?_
                  refine wp_region_held_drew (S := (fun u0 : World => u0.cell? ⟨bo, 1, none⟩ = some (.slice (some ⟨xb, xo, none⟩) xs.length xd) ∧ u0.cell? ⟨xb, xo + k * 3, none⟩ = some (.int .i64 ty2) ∧ u0.cell? ⟨xb, xo + k * 3 + 1, none⟩ = some (.int .i64 fr2) ∧ u0.cell? ⟨xb, xo + k * 3 + 2, none⟩ = some (.int .i64 tt2) ∧ u0.cell? ⟨gx, 0, none⟩ = some (.int .i64 ty) ∧ u0.cell? ⟨gx, 1, none⟩ = some (.int .i64 (cF : Int)) ∧ u0.cell? ⟨gx, 2, none⟩ = some (.int .i64 (cT : Int)) ∧ u0.cell? ⟨gc, j, none⟩ = some (.int .i64 (x : Int)))) (by kernel_rfl) (HSD.out) (fun hHeld => ?_)
                  generalize wr.drew = wd at *
                  refine wpAnyH_take (i := 0) (v := ?_) (oper_at (r := _) rfl) (by kernel_rfl) (by kernel_rfl) (by kernel_rfl) (fun _ _ _ h => h) (Or.inl ⟨by rfl, ?_⟩) (by assumption) ?_
                  rotate_left
                  · intro w hSw; try dsimp only at hSw
                    go_simp
                    try with_reducible rfl
                  try simp only [Act.put, List.setIfInBounds_toArray, List.set_cons_zero, List.set_cons_succ]
                  refine wpAnyH_take (i := 1) (v := ?_) (oper_at (r := _) rfl) (by kernel_rfl) (by kernel_rfl) (by kernel_rfl) (fun _ _ _ h => h) (Or.inl ⟨by rfl, ?_⟩) (by assumption) ?_
                  rotate_left
                  · intro w hSw; try dsimp only at hSw
                    go_simp
                    try with_reducible rfl
                  try simp only [Act.put, List.setIfInBounds_toArray, List.set_cons_zero, List.set_cons_succ]
                  refine wpAnyH_take (i := 2) (v := ?_) (oper_at (r := _) rfl) (by kernel_rfl) (by kernel_rfl) (by kernel_rfl) (fun _ _ _ h => h) (Or.inl ⟨by rfl, ?_⟩) (by assumption) ?_
                  rotate_left
                  · intro w hSw; try dsimp only at hSw
                    go_simp
                    try with_reducible rfl
                  try simp only [Act.put, List.setIfInBounds_toArray, List.set_cons_zero, List.set_cons_succ]
                  refine wpAnyH_take (i := 3) (v := ?_) (oper_at (r := _) rfl) (by kernel_rfl) (by kernel_rfl) (by kernel_rfl) (fun _ _ _ h => h) (Or.inl ⟨by rfl, ?_⟩) (by assumption) ?_
                  rotate_left
                  · intro w hSw; try dsimp only at hSw
                    go_simp
                    try with_reducible rfl
                  try simp only [Act.put, List.setIfInBounds_toArray, List.set_cons_zero, List.set_cons_succ]
                  refine wpAnyH_take (i := 4) (v := ?_) (oper_at (r := _) rfl) (by kernel_rfl) (by kernel_rfl) (by kernel_rfl) (fun _ _ _ h => h) (Or.inl ⟨by rfl, ?_⟩) (by assumption) ?_
                  rotate_left
                  · intro w hSw; try dsimp only at hSw
                    go_simp
                    try with_reducible rfl
                  try simp only [Act.put, List.setIfInBounds_toArray, List.set_cons_zero, List.set_cons_succ]
                  refine wpAnyH_take (i := 5) (v := ?_) (oper_at (r := _) rfl) (by kernel_rfl) (by kernel_rfl) (by kernel_rfl) (fun _ _ _ h => h) (Or.inl ⟨by rfl, ?_⟩) (by assumption) ?_
                  rotate_left
                  · intro w hSw; try dsimp only at hSw
                    go_simp
                    try with_reducible rfl
                  try simp only [Act.put, List.setIfInBounds_toArray, List.set_cons_zero, List.set_cons_succ]
                  by_cases he : (⟨ty2, fr2, tt2⟩ : Ed) = ⟨ty, (cF : Int), (cT : Int)⟩
                  case neg =>
                    refine wpAnyH_take (i := 6) (v := (.bool false)) (oper_at (r := _) rfl) (by kernel_rfl) (by kernel_rfl) (by kernel_rfl) (fun _ _ _ h => h) (Or.inl ⟨by rfl, (by intro w hSw; go_simp; by_cases h1 : ty2 = ty <;> by_cases h2 : fr2 = (cF : Int) <;> by_cases h3 : tt2 = (cT : Int) <;> simp [h1, h2, h3] at he ⊢)⟩) (by assumption) ?_
                    try simp only [Act.put, List.setIfInBounds_toArray, List.set_cons_zero, List.set_cons_succ]
                    refine wpAnyH_take (i := 7) (v := ?_) (oper_at (r := _) rfl) (by kernel_rfl) (by kernel_rfl) (by kernel_rfl) (fun _ _ _ h => h) (Or.inl ⟨by rfl, ?_⟩) (by assumption) ?_
                    rotate_left
                    · intro w hSw; try dsimp only at hSw
                      go_simp
                      try with_reducible rfl
                    try simp only [Act.put, List.setIfInBounds_toArray, List.set_cons_zero, List.set_cons_succ]
                    refine wpAnyH_take (i := 8) (v := undef) (oper_at (r := _) rfl) (by kernel_rfl) (by kernel_rfl) (by kernel_rfl) (fun _ _ _ h => h) (Or.inr ⟨by rfl, rfl⟩) (by assumption) ?_
                    try simp only [Act.put, List.setIfInBounds_toArray, List.set_cons_zero, List.set_cons_succ]
                    refine wpAnyH_take (i := 9) (v := undef) (oper_at (r := _) rfl) (by kernel_rfl) (by kernel_rfl) (by kernel_rfl) (fun _ _ _ h => h) (Or.inr ⟨by rfl, rfl⟩) (by assumption) ?_
                    try simp only [Act.put, List.setIfInBounds_toArray, List.set_cons_zero, List.set_cons_succ]
                    refine wpAnyH_take (i := 10) (v := undef) (oper_at (r := _) rfl) (by kernel_rfl) (by kernel_rfl) (by kernel_rfl) (fun _ _ _ h => h) (Or.inr ⟨by rfl, rfl⟩) (by assumption) ?_
                    try simp only [Act.put, List.setIfInBounds_toArray, List.set_cons_zero, List.set_cons_succ]
                    refine wpAnyH_take (i := 11) (v := undef) (oper_at (r := _) rfl) (by kernel_rfl) (by kernel_rfl) (by kernel_rfl) (fun _ _ _ h => h) (Or.inr ⟨by rfl, rfl⟩) (by assumption) ?_
                    try simp only [Act.put, List.setIfInBounds_toArray, List.set_cons_zero, List.set_cons_succ]
                    refine wpAnyH_take (i := 12) (v := undef) (oper_at (r := _) rfl) (by kernel_rfl) (by kernel_rfl) (by kernel_rfl) (fun _ _ _ h => h) (Or.inr ⟨by rfl, rfl⟩) (by assumption) ?_
                    try simp only [Act.put, List.setIfInBounds_toArray, List.set_cons_zero, List.set_cons_succ]
                    refine wpAnyH_take (i := 13) (v := undef) (oper_at (r := _) rfl) (by kernel_rfl) (by kernel_rfl) (by kernel_rfl) (fun _ _ _ h => h) (Or.inr ⟨by rfl, rfl⟩) (by assumption) ?_
                    try simp only [Act.put, List.setIfInBounds_toArray, List.set_cons_zero, List.set_cons_succ]
                    refine wpAnyH_take (i := 14) (v := undef) (oper_at (r := _) rfl) (by kernel_rfl) (by kernel_rfl) (by kernel_rfl) (fun _ _ _ h => h) (Or.inr ⟨by rfl, rfl⟩) (by assumption) ?_
                    try simp only [Act.put, List.setIfInBounds_toArray, List.set_cons_zero, List.set_cons_succ]
                    refine wpAnyH_take (i := 15) (v := undef) (oper_at (r := _) rfl) (by kernel_rfl) (by kernel_rfl) (by kernel_rfl) (fun _ _ _ h => h) (Or.inr ⟨by rfl, rfl⟩) (by assumption) ?_
                    try simp only [Act.put, List.setIfInBounds_toArray, List.set_cons_zero, List.set_cons_succ]
                    refine wpAnyH_take (i := 16) (v := undef) (oper_at (r := _) rfl) (by kernel_rfl) (by kernel_rfl) (by kernel_rfl) (fun _ _ _ h => h) (Or.inr ⟨by rfl, rfl⟩) (by assumption) ?_
                    try simp only [Act.put, List.setIfInBounds_toArray, List.set_cons_zero, List.set_cons_succ]
                    refine wpAnyH_take (i := 17) (v := undef) (oper_at (r := _) rfl) (by kernel_rfl) (by kernel_rfl) (by kernel_rfl) (fun _ _ _ h => h) (Or.inr ⟨by rfl, rfl⟩) (by assumption) ?_
                    try simp only [Act.put, List.setIfInBounds_toArray, List.set_cons_zero, List.set_cons_succ]
                    refine wpAnyH_take (i := 18) (v := undef) (oper_at (r := _) rfl) (by kernel_rfl) (by kernel_rfl) (by kernel_rfl) (fun _ _ _ h => h) (Or.inr ⟨by rfl, rfl⟩) (by assumption) ?_
                    try simp only [Act.put, List.setIfInBounds_toArray, List.set_cons_zero, List.set_cons_succ]
                    refine wpAnyH_take (i := 19) (v := ?_) (oper_at (r := _) rfl) (by kernel_rfl) (by kernel_rfl) (by kernel_rfl) (fun _ _ _ h => h) (Or.inl ⟨by rfl, ?_⟩) (by assumption) ?_
                    rotate_left
                    · intro w hSw; try dsimp only at hSw
                      go_simp
                      try with_reducible rfl
                    try simp only [Act.put, List.setIfInBounds_toArray, List.set_cons_zero, List.set_cons_succ]
                    refine wpAnyH_done (by kernel_rfl) ?_ _
                    refine NoPanic.normal ?_
                    clear he
                    go_wp2_with fail
                    go_roundw
                    case rel => exact ⟨k + 1, HKL.out, by go_num, HAT.out, HBD.out⟩
                    case measure => exact HM5.out
                  have HH2 := Lib.hid (HHIT.out (by rw [HIM.out]; exact he))
                  obtain ⟨rfl, rfl, rfl⟩ := Ed.mk.inj he
                  clear he HHIT
                  refine wpAnyH_take (i := 6) (v := ?_) (oper_at (r := _) rfl) (by kernel_rfl) (by kernel_rfl) (by kernel_rfl) (fun _ _ _ h => h) (Or.inl ⟨by rfl, ?_⟩) (by assumption) ?_
                  rotate_left
                  · intro w hSw; try dsimp only at hSw
                    go_simp
                    try with_reducible rfl
                  try simp only [Act.put, List.setIfInBounds_toArray, List.set_cons_zero, List.set_cons_succ]
                  refine wpAnyH_take (i := 7) (v := ?_) (oper_at (r := _) rfl) (by kernel_rfl) (by kernel_rfl) (by kernel_rfl) (fun _ _ _ h => h) (Or.inl ⟨by rfl, ?_⟩) (by assumption) ?_
                  rotate_left
                  · intro w hSw; try dsimp only at hSw
                    go_simp
                    try with_reducible rfl
                  try simp only [Act.put, List.setIfInBounds_toArray, List.set_cons_zero, List.set_cons_succ]
                  refine wpAnyH_take (i := 8) (v := ?_) (oper_at (r := _) rfl) (by kernel_rfl) (by kernel_rfl) (by kernel_rfl) (fun _ _ _ h => h) (Or.inl ⟨by rfl, ?_⟩) (by assumption) ?_
                  rotate_left
                  · intro w hSw; try dsimp only at hSw
                    go_simp
                    try with_reducible rfl
                  try simp only [Act.put, List.setIfInBounds_toArray, List.set_cons_zero, List.set_cons_succ]
                  refine wpAnyH_take (i := 9) (v := ?_) (oper_at (r := _) rfl) (by kernel_rfl) (by kernel_rfl) (by kernel_rfl) (fun _ _ _ h => h) (Or.inl ⟨by rfl, ?_⟩) (by assumption) ?_
                  rotate_left
                  · intro w hSw; try dsimp only at hSw
                    go_simp
                    try with_reducible rfl
                  try simp only [Act.put, List.setIfInBounds_toArray, List.set_cons_zero, List.set_cons_succ]
                  refine wpAnyH_take (i := 10) (v := ?_) (oper_at (r := _) rfl) (by kernel_rfl) (by kernel_rfl) (by kernel_rfl) (fun _ _ _ h => h) (Or.inl ⟨by rfl, ?_⟩) (by assumption) ?_
                  rotate_left
                  · intro w hSw; try dsimp only at hSw
                    go_simp
                    try with_reducible rfl
                  try simp only [Act.put, List.setIfInBounds_toArray, List.set_cons_zero, List.set_cons_succ]
                  refine wpAnyH_take (i := 11) (v := ?_) (oper_at (r := _) rfl) (by kernel_rfl) (by kernel_rfl) (by kernel_rfl) (fun _ _ _ h => h) (Or.inl ⟨by rfl, ?_⟩) (by assumption) ?_
                  rotate_left
                  · intro w hSw; try dsimp only at hSw
                    go_simp
                    try with_reducible rfl
                  try simp only [Act.put, List.setIfInBounds_toArray, List.set_cons_zero, List.set_cons_succ]
                  refine wpAnyH_take (i := 12) (v := ?_) (oper_at (r := _) rfl) (by kernel_rfl) (by kernel_rfl) (by kernel_rfl) (fun _ _ _ h => h) (Or.inl ⟨by rfl, ?_⟩) (by assumption) ?_
                  rotate_left
                  · intro w hSw; try dsimp only at hSw
                    go_simp
                    try with_reducible rfl
                  try simp only [Act.put, List.setIfInBounds_toArray, List.set_cons_zero, List.set_cons_succ]
                  refine wpAnyH_take (i := 13) (v := ?_) (oper_at (r := _) rfl) (by kernel_rfl) (by kernel_rfl) (by kernel_rfl) (fun _ _ _ h => h) (Or.inl ⟨by rfl, ?_⟩) (by assumption) ?_
                  rotate_left
                  · intro w hSw; try dsimp only at hSw
                    go_simp
                    try with_reducible rfl
                  try simp only [Act.put, List.setIfInBounds_toArray, List.set_cons_zero, List.set_cons_succ]
                  refine wpAnyH_take (i := 14) (v := ?_) (oper_at (r := _) rfl) (by kernel_rfl) (by kernel_rfl) (by kernel_rfl) (fun _ _ _ h => h) (Or.inl ⟨by rfl, ?_⟩) (by assumption) ?_
                  rotate_left
                  · intro w hSw; try dsimp only at hSw
                    go_simp
                    try with_reducible rfl
                  try simp only [Act.put, List.setIfInBounds_toArray, List.set_cons_zero, List.set_cons_succ]
                  refine wpAnyH_take (i := 15) (v := ?_) (oper_at (r := _) rfl) (by kernel_rfl) (by kernel_rfl) (by kernel_rfl) (fun _ _ _ h => h) (Or.inl ⟨by rfl, ?_⟩) (by assumption) ?_
                  rotate_left
                  · intro w hSw; try dsimp only at hSw
                    go_simp
                    try with_reducible rfl
                  try simp only [Act.put, List.setIfInBounds_toArray, List.set_cons_zero, List.set_cons_succ]
                  refine wpAnyH_take (i := 16) (v := ?_) (oper_at (r := _) rfl) (by kernel_rfl) (by kernel_rfl) (by kernel_rfl) (fun _ _ _ h => h) (Or.inl ⟨by rfl, ?_⟩) (by assumption) ?_
                  rotate_left
                  · intro w hSw; try dsimp only at hSw
                    go_simp
                    try with_reducible rfl
                  try simp only [Act.put, List.setIfInBounds_toArray, List.set_cons_zero, List.set_cons_succ]
                  refine wpAnyH_take (i := 17) (v := ?_) (oper_at (r := _) rfl) (by kernel_rfl) (by kernel_rfl) (by kernel_rfl) (fun _ _ _ h => h) (Or.inl ⟨by rfl, ?_⟩) (by assumption) ?_
                  rotate_left
                  · intro w hSw; try dsimp only at hSw
                    go_simp
                    try with_reducible rfl
                  try simp only [Act.put, List.setIfInBounds_toArray, List.set_cons_zero, List.set_cons_succ]
                  by_cases hr0 : r = 0
                  case neg =>
                    have t1 : ((r : Int) == 0) = false := beq_eq_false_iff_ne.2 (by omega)
                    refine wpAnyH_take (i := 18) (v := ?_) (oper_at (r := _) rfl) (by kernel_rfl) (by kernel_rfl) (by kernel_rfl) (fun _ _ _ h => h) (Or.inl ⟨by rfl, ?_⟩) (by assumption) ?_
                    rotate_left
                    · intro w hSw; try dsimp only at hSw
                      go_simp
                      try with_reducible rfl
                    try simp only [Act.put, List.setIfInBounds_toArray, List.set_cons_zero, List.set_cons_succ]
                    refine wpAnyH_take (i := 19) (v := ?_) (oper_at (r := _) rfl) (by kernel_rfl) (by kernel_rfl) (by kernel_rfl) (fun _ _ _ h => h) (Or.inl ⟨by rfl, ?_⟩) (by assumption) ?_
                    rotate_left
                    · intro w hSw; try dsimp only at hSw
                      go_simp
                      try with_reducible rfl
                    try simp only [Act.put, List.setIfInBounds_toArray, List.set_cons_zero, List.set_cons_succ]
                    refine wpAnyH_done (by kernel_rfl) ?_ _
                    refine NoPanic.normal ?_
                    clear hr0 t1
                    go_wp2_with fail
                    go_roundw
                    case rel => exact ⟨k + 1, HKL.out, by go_num, HAT.out, HBD.out⟩
                    case measure => exact HM5.out
                  subst hr0
                  refine wpAnyH_take (i := 18) (v := ?_) (oper_at (r := _) rfl) (by kernel_rfl) (by kernel_rfl) (by kernel_rfl) (fun _ _ _ h => h) (Or.inl ⟨by rfl, ?_⟩) (by assumption) ?_
                  rotate_left
                  · intro w hSw; try dsimp only at hSw
                    go_simp
                    try with_reducible rfl
                  try simp only [Act.put, List.setIfInBounds_toArray, List.set_cons_zero, List.set_cons_succ]
                  refine wpAnyH_take (i := 19) (v := ?_) (oper_at (r := _) rfl) (by kernel_rfl) (by kernel_rfl) (by kernel_rfl) (fun _ _ _ h => h) (Or.inl ⟨by rfl, ?_⟩) (by assumption) ?_
                  rotate_left
                  · intro w hSw; try dsimp only at hSw
                    go_simp
                    try with_reducible rfl
                  try simp only [Act.put, List.setIfInBounds_toArray, List.set_cons_zero, List.set_cons_succ]
                  refine wpAnyH_done (by kernel_rfl) ?_ _
                  refine NoPanic.normal ?_
                  go_wp2_with fail
                  go_roundw
                  case rel => exact ⟨k + 1, HKL.out, by go_num, HH2.out, HBD.out⟩
                  case measure => exact HM5.out
                · have hke : k = xs.length := by omega
                  clear hkl hk hbq
                  subst hke
                  rcases HAT.out with rfl | ⟨t, rfl, ht, hte⟩
                  · obtain ⟨x0, x1, x2⟩ := cell3 HXQ.out
                    have hbe : Below wr.heap.size wr (wr.alloc (.cells #[.int .i64 ty, .int .i64 (cF : Int), .int .i64 (cT : Int)] 65)) := (Below.refl _ _).alloc (Nat.le_refl _) _
                    have HLE := Lib.hid (heap_alloc_new wr (.cells #[.int .i64 ty, .int .i64 (cF : Int), .int .i64 (cT : Int)] 65))
                    have HBE := Lib.hid hbe
                    have HOE := Lib.hid (OwnE.alloc HTQ.out.e (.cells #[.int .i64 ty, .int .i64 (cF : Int), .int .i64 (cT : Int)] 65))
                    clear hbe
                    go_wp2_with (at_builtin; refine wpList_append_E (E := EEd) (w := wr.alloc (.cells #[.int .i64 ty, .int .i64 (cF : Int), .int .i64 (cT : Int)] 65)) rfl _ _ 23 65 rfl Tryd.underlying23 infoEd rfl (by decide) (by decide) B (.slice xa xs.length xd) xs rfl ?p1 ⟨wr.heap.size, 0, none⟩ 1 (⟨ty, (cF : Int), (cT : Int)⟩ : Ed) rfl ?p2 ?p3 ?p4 ?_)
                    case p1 => exact HOE.out
                    case p2 => first | exact ed_lit (x := ⟨ty, (cF : Int), (cT : Int)⟩) HLE.out | exact fun j u hu => by simpa [EEd] using hu
                    case p3 => have := HLX.out; have := HI80.out; omega
                    case p4 => exact Nat.le_trans HTQ.out.s.hB (by simp)
                    intro v5 w5 ho5 hg5 hb5
                    obtain ⟨a5, d5, hv5⟩ := OwnE.slice ho5
                    generalize (xs ++ [(⟨ty, (cF : Int), (cT : Int)⟩ : Ed)]).length = L5 at hv5
                    subst hv5
                    have o5 : BoxIs bo (.slice (some ⟨gz, 0, none⟩) cnt cnt) (.slice xa xs.length xd) 25 w5 := (hb5.block bo HTQ.out.s.ng.2.2.2.2.1).trans (HTQ.out.o.up HBE.out)
                    have HTE := Lib.hid (HTQ.out.putE HBE.out ho5 hg5)
                    have b5 := (cell2 o5).2
                    have f5 : w5.frozen? ⟨bo, 1, none⟩ = false := BoxIs.free o5 1
                    clear x0 x1 x2 b1 o5 ho5 hg5 hb5
                    go_upto_region 29 with fail
                    clear b5 f5
                    generalize w5.setCell ⟨bo, 1, none⟩ (.slice a5 L5 d5) = w6 at *
                    have HJN := Lib.hid (HADD2.out HLT.out)
                    rw [HIM.out] at HJN
                    have hbma : Below w6.heap.size w6 (w6.alloc (.cells #[.int .i64 (xs.length : Int)] 3)) := (Below.refl _ _).alloc (Nat.le_refl _) _
                    have HLma := Lib.hid (heap_alloc_new w6 (.cells #[.int .i64 (xs.length : Int)] 3))
                    have HBma := Lib.hid hbma
                    have HOma := Lib.hid (OwnE.alloc HTE.out.r (.cells #[.int .i64 (xs.length : Int)] 3))
                    have b2 := (cell2 HTE.out.m).2
                    clear hbma
                    go_wp2_with (at_builtin; refine wpList_append_E (E := EInt) (w := w6.alloc (.cells #[.int .i64 (xs.length : Int)] 3)) rfl _ _ 22 3 rfl Tryd.underlying22 infoInt rfl (by decide) (by decide) B (.slice ma ms.length md) ms rfl ?ma1 ⟨w6.heap.size, 0, none⟩ 1 (xs.length : Int) rfl ?ma2 ?ma3 ?ma4 ?_)
                    case ma1 => exact HOma.out
                    case ma2 => first | exact in_lit HLma.out | exact fun j u hu => by simpa [EInt] using hu
                    case ma3 => have := HLX.out; have := HI80.out; omega
                    case ma4 => exact Nat.le_trans HTE.out.s.hB (by simp)
                    intro v7 w7 ho7 hg7 hb7
                    obtain ⟨a7, d7, hv7⟩ := OwnE.slice ho7
                    generalize (ms ++ [(xs.length : Int)]).length = L7 at hv7
                    subst hv7
                    have i80 : i ≤ 80 := HI80.out
                    have o7 : BoxIs (bo + 1) (.slice (some ⟨qb, 0, none⟩) qs.length qd) (.slice ma ms.length md) 27 w7 := (hb7.block (bo + 1) HTE.out.s.ng.2.2.2.2.2.1).trans (HTE.out.m.up HBma.out)
                    have HT7 := Lib.hid (HTE.out.putM HBma.out ho7 hg7)
                    have b3 := (cell2 o7).2
                    have f3 : w7.frozen? ⟨bo + 1, 1, none⟩ = false := BoxIs.free o7 1
                    clear b2 o7 ho7 hg7 hb7
                    go_wp2_with fail
                    go_roundw
                    case rel => exact ⟨i + 1, _, _, _, _, HLT.out, by go_num, HJN.out, HT7.out⟩
                    case measure => exact HM4.out
                  · have HJN := Lib.hid (HOLD.out t ht hte)
                    have t0 : ¬ (t : Int) < 0 := by omega
                    clear ht hte
                    go_upto_region 29 with fail
                    clear t0 b1
                    have hbmb : Below wr.heap.size wr (wr.alloc (.cells #[.int .i64 (t : Int)] 3)) := (Below.refl _ _).alloc (Nat.le_refl _) _
                    have HLmb := Lib.hid (heap_alloc_new wr (.cells #[.int .i64 (t : Int)] 3))
                    have HBmb := Lib.hid hbmb
                    have HOmb := Lib.hid (OwnE.alloc HTQ.out.r (.cells #[.int .i64 (t : Int)] 3))
                    have b2 := (cell2 HTQ.out.m).2
                    clear hbmb
                    go_wp2_with (at_builtin; refine wpList_append_E (E := EInt) (w := wr.alloc (.cells #[.int .i64 (t : Int)] 3)) rfl _ _ 22 3 rfl Tryd.underlying22 infoInt rfl (by decide) (by decide) B (.slice ma ms.length md) ms rfl ?mb1 ⟨wr.heap.size, 0, none⟩ 1 (t : Int) rfl ?mb2 ?mb3 ?mb4 ?_)
                    case mb1 => exact HOmb.out
                    case mb2 => first | exact in_lit HLmb.out | exact fun j u hu => by simpa [EInt] using hu
                    case mb3 => have := HLX.out; have := HI80.out; omega
                    case mb4 => exact Nat.le_trans HTQ.out.s.hB (by simp)
                    intro v7 w7 ho7 hg7 hb7
                    obtain ⟨a7, d7, hv7⟩ := OwnE.slice ho7
                    generalize (ms ++ [(t : Int)]).length = L7 at hv7
                    subst hv7
                    have i80 : i ≤ 80 := HI80.out
                    have o7 : BoxIs (bo + 1) (.slice (some ⟨qb, 0, none⟩) qs.length qd) (.slice ma ms.length md) 27 w7 := (hb7.block (bo + 1) HTQ.out.s.ng.2.2.2.2.2.1).trans (HTQ.out.m.up HBmb.out)
                    have HT7 := Lib.hid (HTQ.out.putM HBmb.out ho7 hg7)
                    have b3 := (cell2 o7).2
                    have f3 : w7.frozen? ⟨bo + 1, 1, none⟩ = false := BoxIs.free o7 1
                    clear b2 o7 ho7 hg7 hb7
                    go_wp2_with fail
                    go_roundw
                    case rel => exact ⟨i + 1, _, _, _, _, HLT.out, by go_num, HJN.out, HT7.out⟩
                    case measure => exact HM4.out
            · have hie : i = g.es.length := by omega
              clear hlt hi
              subst hie
              go_wp2_with fail
              obtain ⟨xa, xd, hve⟩ := OwnE.slice HTT.out.e
              obtain ⟨ma, md, hvm⟩ := OwnE.slice HTT.out.r
              subst hve hvm
              have HTD := Lib.hid (HTT.out.up (below_d wr))
              clear hTT HTT c1
              have HS0 : Hid ((fun u0 : World => u0.cell? ⟨bo, 0, none⟩ = some (.slice (some ⟨gz, 0, none⟩) cnt cnt) ∧ u0.cell? ⟨bo, 1, none⟩ = some (.slice xa xs.length xd) ∧ u0.cell? ⟨bo + 1, 0, none⟩ = some (.slice qa qs.length qd) ∧ u0.cell? ⟨bo + 1, 1, none⟩ = some (.slice ma ms.length md)) wr.drew) := Lib.hid ⟨(cell2 HTD.out.o).1, (cell2 HTD.out.o).2, (cell2 HTD.out.m).1, (cell2 HTD.out.m).2⟩
              refine wp_region_noPanic ?_
              refine wp_region_held_drew (S := (fun u0 : World => u0.cell? ⟨bo, 0, none⟩ = some (.slice (some ⟨gz, 0, none⟩) cnt cnt) ∧ u0.cell? ⟨bo, 1, none⟩ = some (.slice xa xs.length xd) ∧ u0.cell? ⟨bo + 1, 0, none⟩ = some (.slice qa qs.length qd) ∧ u0.cell? ⟨bo + 1, 1, none⟩ = some (.slice ma ms.length md))) (by kernel_rfl) (HS0.out) (fun hHeld => ?_)
              generalize wr.drew = wd at *
              have B1 : BoxIs (w.heap.size + 1) (.slice none 0 0) (.slice none 0 0) 25 wd := HTD.out.s.sv.2.2 1 _ rfl
              have B2 : BoxIs (w.heap.size + 2) (.slice none 0 0) (.slice none 0 0) 27 wd := HTD.out.s.sv.2.2 2 _ rfl
              have hne1 := ownsRow_far HTD.out.s.rq B1 (by decide)
              have hne2 := ownsRow_far HTD.out.s.rq B2 (by decide)
              have hng := HTD.out.s.ng
              have HFIN := Lib.hid (HTD.out.fin ⟨hne1, hne2⟩ (a := .slice (some ⟨gz, 0, none⟩) cnt cnt) (b := .slice xa xs.length xd) (c := .slice qa qs.length qd) (d := .slice ma ms.length md) _ rfl)
              have far : ∀ (V : World) (k : Nat) (a b : Value), k ≠ bo → k ≠ bo + 1 → (fun u0 : World => u0.cell? ⟨bo, 0, none⟩ = some (.slice (some ⟨gz, 0, none⟩) cnt cnt) ∧ u0.cell? ⟨bo, 1, none⟩ = some (.slice xa xs.length xd) ∧ u0.cell? ⟨bo + 1, 0, none⟩ = some (.slice qa qs.length qd) ∧ u0.cell? ⟨bo + 1, 1, none⟩ = some (.slice ma ms.length md)) V → (fun u0 : World => u0.cell? ⟨bo, 0, none⟩ = some (.slice (some ⟨gz, 0, none⟩) cnt cnt) ∧ u0.cell? ⟨bo, 1, none⟩ = some (.slice xa xs.length xd) ∧ u0.cell? ⟨bo + 1, 0, none⟩ = some (.slice qa qs.length qd) ∧ u0.cell? ⟨bo + 1, 1, none⟩ = some (.slice ma ms.length md)) ((V.setCell ⟨k, 0, none⟩ a).setCell ⟨k, 1, none⟩ b) := fun V k a b h1 h2 h => by
                refine ⟨?_, ?_, ?_, ?_⟩
                · rw [World.cell?_setCell_far _ _ _ _ h1, World.cell?_setCell_far _ _ _ _ h1]; exact h.1
                · rw [World.cell?_setCell_far _ _ _ _ h1, World.cell?_setCell_far _ _ _ _ h1]; exact h.2.1
                · rw [World.cell?_setCell_far _ _ _ _ h2, World.cell?_setCell_far _ _ _ _ h2]; exact h.2.2.1
                · rw [World.cell?_setCell_far _ _ _ _ h2, World.cell?_setCell_far _ _ _ _ h2]; exact h.2.2.2
              have HS1 := Lib.hid (far wd (w.heap.size + 1) (.slice (some ⟨gz, 0, none⟩) cnt cnt) (.slice xa xs.length xd) (by omega) (by omega) HS0.out)
              have HS2 := Lib.hid (far _ (w.heap.size + 2) (.slice qa qs.length qd) (.slice ma ms.length md) (by omega) (by omega) HS1.out)
              have HB2 : Hid (BoxIs (w.heap.size + 2) (.slice none 0 0) (.slice none 0 0) 27 ((wd.setCell ⟨w.heap.size + 1, 0, none⟩ (.slice (some ⟨gz, 0, none⟩) cnt cnt)).setCell ⟨w.heap.size + 1, 1, none⟩ (.slice xa xs.length xd))) := Lib.hid ((B2.set (p := ⟨w.heap.size + 1, 0, none⟩) (by show w.heap.size + 1 ≠ w.heap.size + 2; omega) _).set (p := ⟨w.heap.size + 1, 1, none⟩) (by show w.heap.size + 1 ≠ w.heap.size + 2; omega) _)
              obtain ⟨h1, h2⟩ := HOK.out zs xs ms HZL.out HZS.out HZI.out HJ.out
              have HMO := Lib.hid h1
              have HLS := Lib.hid (And.intro h2 hJ.lx)
              clear h1 h2 hJ far hne1 hne2 hng B2 HTD
              refine wpAnyH_take (i := 0) (v := ?_) (oper_at (r := _) rfl) (by kernel_rfl) (by kernel_rfl) (by kernel_rfl) (fun _ _ _ h => h) (Or.inl ⟨by rfl, ?_⟩) (by assumption) ?_
              rotate_left
              · intro w hSw; try dsimp only at hSw
                go_simp
                try with_reducible rfl
              try simp only [Act.put, List.setIfInBounds_toArray, List.set_cons_zero, List.set_cons_succ]
              refine wpAnyH_take (i := 1) (v := ?_) (oper_at (r := _) rfl) (by kernel_rfl) (by kernel_rfl) (by kernel_rfl) (fun _ _ _ h => h) (Or.inl ⟨by rfl, ?_⟩) (by assumption) ?_
              rotate_left
              · intro w hSw; try dsimp only at hSw
                go_simp
                try with_reducible rfl
              try simp only [Act.put, List.setIfInBounds_toArray, List.set_cons_zero, List.set_cons_succ]
              obtain ⟨s0, s1⟩ := cell2 B1
              have fz0 : wd.frozen? ⟨w.heap.size + 1, 0, none⟩ = false := BoxIs.free B1 0
              have fz1 : wd.frozen? ⟨w.heap.size + 1, 1, none⟩ = false := BoxIs.free B1 1
              refine wpAnyH_ready (rs := [2]) (by kernel_rfl) (by simp) ?_
              refine AllReadyH.cons (oper_at (r := _) rfl) (fun K hK => ?_) AllReadyH.nil
              go_simp
              refine hK.out _ _ (HS1.out) (fun _ => ?_)
              clear hK K
              try simp only [Act.put, List.setIfInBounds_toArray, List.set_cons_zero, List.set_cons_succ]
              clear s0 s1 fz0 fz1 B1
              obtain ⟨s0, s1⟩ := cell2 HB2.out
              have fz0 := BoxIs.free HB2.out 0
              have fz1 := BoxIs.free HB2.out 1
              refine wpAnyH_ready (rs := [3]) (by kernel_rfl) (by simp) ?_
              refine AllReadyH.cons (oper_at (r := _) rfl) (fun K hK => ?_) AllReadyH.nil
              go_simp
              refine hK.out _ _ (HS2.out) (fun _ => ?_)
              clear hK K
              try simp only [Act.put, List.setIfInBounds_toArray, List.set_cons_zero, List.set_cons_succ]
              clear s0 s1 fz0 fz1
              refine wpAnyH_done (by kernel_rfl) ?_ _
              refine NoPanic.normal ?_
              obtain ⟨z1, z2, z3, z4, z5⟩ := HFIN.out
              obtain ⟨r0, r1⟩ := z3.cells
              obtain ⟨r2, r3⟩ := z4.cells
              have HZ1 := Lib.hid z1
              have HZ2 := Lib.hid z2
              have HZ5 := Lib.hid z5
              clear z1 z2 z3 z4 z5 HFIN HS0 HS1 HS2
              go_wp2_with fail
              refine bodyPost_ret (v := .tuple #[.agg #[.slice (some ⟨gz, 0, none⟩) cnt cnt, .slice xa xs.length xd], .agg #[.slice qa qs.length qd, .slice ma ms.length md]]) (by simp [results, Tryd.results35, go_sem, r0, r1, r2, r3]) rfl ?_
              exact ⟨⟨_, _, ⟨zs, xs⟩, ⟨qs, ms⟩, rfl, HZ1.out, HZ2.out, HMO.out, HLS.out.1, HLS.out.2⟩, HZ5.out⟩

end Go.Proofs.YtaeelanbkdkppaaDoor

