import Derived.Test.YthnhacncnhknnaaDoorZ05
/-
  Parts of graphs, the reference: Right, Valid, both.
-/
namespace Go.Proofs.YthnhacncnhknnaaDoor
open Go.RowKit Go.Shelf

/-- a box of three cells -/
def BX3 (g : Nat) (a b c : Value) (t : TypeId) (W : World) : Prop := W.heap[g]? = some (.cells #[a, b, c] t (0, 0))
theorem BX3.cells {g : Nat} {a b c : Value} {t : TypeId} {W : World} (h : BX3 g a b c t W) : W.cell? ⟨g, 0, none⟩ = some a ∧ W.cell? ⟨g, 1, none⟩ = some b ∧ W.cell? ⟨g, 2, none⟩ = some c :=
  ⟨cell_of_row _ _ 0 _ _ _ h, cell_of_row _ _ 1 _ _ _ h, cell_of_row _ _ 2 _ _ _ h⟩
theorem BX3.up {g : Nat} {a b c : Value} {t : TypeId} {W W' : World} (h : BX3 g a b c t W) (hb : Below W.heap.size W W') : BX3 g a b c t W' := heap_up hb h
theorem pd_hit {g : Gr} {p : Mo} {k : Nat} (h : ¬ ((g.es.getD (p.es.getD k 0).toNat default).fr ∈ p.ns ∧ (g.es.getD (p.es.getD k 0).toNat default).tq ∈ p.ns)) : pdAt g p k = 14 := if_neg h
theorem pd_pass {g : Gr} {p : Mo} {k : Nat} (h : (g.es.getD (p.es.getD k 0).toNat default).fr ∈ p.ns ∧ (g.es.getD (p.es.getD k 0).toNat default).tq ∈ p.ns) : pdAt g p k = 0 := if_pos h

set_option maxRecDepth 100000 in
set_option maxHeartbeats 4000000 in
theorem right7_any (g : Gr) (p : Mo) (An : Option Addr) (cn : Nat) (Ae : Option Addr) (ce : Nat) (Pn : Option Addr) (pn : Nat) (Pe : Option Addr) (pe : Nat) (w : World) (hg : GrAt w An cn Ae ce g) (hp : PtAt w Pn Pe p) :
    Calls Tryd.prog 60 #[gval An g.ns.length cn Ae g.es.length ce, gval Pn p.ns.length pn Pe p.es.length pe] w fun e w' => e = .returned (.int .i64 (rightE g p : Nat)) ∧ Below w.heap.size w w' := by
  have hS0 : SR w _ ((w.alloc (.cells #[.slice An g.ns.length cn, .slice Ae g.es.length ce] 25)).alloc (.cells #[.slice Pn p.ns.length pn, .slice Pe p.es.length pe] 27)) := SR.push (SR.push (SR.nil w) rfl _ _ _) (by simp) _ _ _
  have HA1 := Lib.hid (fun (u : World) (hu : Below w.heap.size w u) => (asc7_any p.ns g.ns.length Pn u.heap.size pn u (by have := hp.ln; unfold maxLen; omega) (Reads.up hp.ns hu)).mono (fun e w' h => show e = .returned (.int .i64 (ascE p.ns g.ns.length)) ∧ Below u.heap.size u w' from ⟨h.1, by obtain ⟨q, rfl⟩ := h.2; exact below_draws (Below.refl _ _) q⟩))
  have HA2 := Lib.hid (fun (u : World) (hu : Below w.heap.size w u) => (asc7_any p.es g.es.length Pe u.heap.size pe u (by have := hp.le; unfold maxLen; omega) (Reads.up hp.es hu)).mono (fun e w' h => show e = .returned (.int .i64 (ascE p.es g.es.length)) ∧ Below u.heap.size u w' from ⟨h.1, by obtain ⟨q, rfl⟩ := h.2; exact below_draws (Below.refl _ _) q⟩))
  have HHS := Lib.hid (fun (x : Int) (u : World) (hu : Below w.heap.size w u) => has7_any p.ns x Pn u.heap.size pn u (by have := hp.ln; unfold maxLen; omega) (Reads.up hp.ns hu))
  have HPE := Lib.hid (fun (u : World) (hu : Below w.heap.size w u) => Reads.up hp.es hu)
  have HGE := Lib.hid (fun (u : World) (hu : Below w.heap.size w u) => Reads.up hg.es hu)
  have HX : Hid (rightE g p = if ascE p.ns g.ns.length ≠ 0 then ascE p.ns g.ns.length else if ascE p.es g.es.length ≠ 0 then ascE p.es g.es.length else fstN (pdAt g p) 0 (p.es.length - 0)) := Lib.hid rfl
  have HZ : Hid (ascE p.es g.es.length = 0 → ∀ x ∈ p.es, 0 ≤ x ∧ x < g.es.length) := Lib.hid fun h => (asc_zero h).1
  have HHIT := Lib.hid (fun k (h : k < p.es.length) hf => fstN_hit (f := pdAt g p) h hf)
  have HPASS := Lib.hid (fun k (h : k < p.es.length) hf => fstN_pass (f := pdAt g p) h hf)
  have HEND := Lib.hid (fun k (h : p.es.length ≤ k) => fstN_end (f := pdAt g p) h)
  have HD1 := Lib.hid (fun k h => pd_hit (g := g) (p := p) (k := k) h)
  have HD0 := Lib.hid (fun k h => pd_pass (g := g) (p := p) (k := k) h)
  have HLL : Hid (p.ns.length ≤ 1000 ∧ p.es.length ≤ 1000) := Lib.hid ⟨hp.ln, hp.le⟩
  have HS0 := Lib.hid hS0
  clear hg hp hS0
  generalize rightE g p = R at HX ⊢
  generalize ascE p.ns g.ns.length = e1 at *
  generalize ascE p.es g.es.length = e2 at *
  generalize pdAt g p = F at *
  go_enter Tryd.func60, Tryd.ntmps60
  go_wp2_with fail
  refine (HA1.out _ HS0.out.1).mono ?_
  rintro e w1 ⟨rfl, hb1⟩
  have HS1 := Lib.hid (HS0.out.up hb1)
  clear hb1 HS0 HA1
  obtain ⟨c0, c1⟩ := HS1.out.cell (i := 0) rfl
  obtain ⟨c2, c3⟩ := HS1.out.cell (i := 1) rfl
  simp only [Nat.add_zero] at c0 c1
  by_cases h1 : e1 = 0
  case neg =>
    have HR := Lib.hid (show R = e1 by rw [HX.out, if_pos h1])
    have t1 : ((e1 : Int) != 0) = true := by simp; omega
    clear h1
    go_wp2_with fail
    go_ret
    exact ⟨ret_int (by rw [HR.out]), HS1.out.1⟩
  have HX2 := Lib.hid (show R = if e2 ≠ 0 then e2 else fstN F 0 (p.es.length - 0) by rw [HX.out, if_neg (by omega)])
  have t1 : ((e1 : Int) != 0) = false := by simp; omega
  clear h1 HX
  go_wp2_with fail
  refine (HA2.out _ HS1.out.1).mono ?_
  rintro e w2 ⟨rfl, hb2⟩
  have HS2 := Lib.hid (HS1.out.up hb2)
  clear hb2 HS1 HA2 c0 c1 c2 c3 t1
  obtain ⟨c0, c1⟩ := HS2.out.cell (i := 0) rfl
  obtain ⟨c2, c3⟩ := HS2.out.cell (i := 1) rfl
  simp only [Nat.add_zero] at c0 c1
  by_cases h2 : e2 = 0
  case neg =>
    have HR := Lib.hid (show R = e2 by rw [HX2.out, if_pos h2])
    have t1 : ((e2 : Int) != 0) = true := by simp; omega
    clear h2
    go_wp2_with fail
    go_ret
    exact ⟨ret_int (by rw [HR.out]), HS2.out.1⟩
  have HX3 := Lib.hid (show R = fstN F 0 (p.es.length - 0) by rw [HX2.out, if_neg (by omega)])
  have HZ2 := Lib.hid (HZ.out h2)
  have t1 : ((e2 : Int) != 0) = false := by simp; omega
  clear h2 HX2 HZ
  go_wp2_with fail
  clear t1 c0 c1 c2 c3
  go_loopw [7] (fun v wr => ∃ k : Nat, k ≤ p.es.length ∧ v = .int .i64 (k : Int) ∧ SR w [(.slice An g.ns.length cn, .slice Ae g.es.length ce, 25), (.slice Pn p.ns.length pn, .slice Pe p.es.length pe, 27)] wr ∧ R = fstN F k (p.es.length - k)) (fun v _ => p.es.length - (intOf v).toNat)
  case atStart => exact ⟨0, Nat.zero_le _, rfl, HS2.out, HX3.out⟩
  case round =>
    clear HX3 HS2
    obtain ⟨k, hk, rfl, hsr, hr⟩ := hrel
    have HS := Lib.hid hsr
    have HR := Lib.hid hr
    clear hsr hr
    obtain ⟨c0, c1⟩ := HS.out.cell (i := 0) rfl
    obtain ⟨c2, c3⟩ := HS.out.cell (i := 1) rfl
    simp only [Nat.add_zero] at c0 c1
    by_cases hlt : k < p.es.length
    · obtain ⟨b, off, hPe, hb, hc⟩ := Ints.cells (HPE.out _ HS.out.1) hlt
      have ck := hc k hlt
      have hx := HZ2.out _ (getD_mem (d := (0 : Int)) hlt)
      obtain ⟨q, hq⟩ : ∃ q : Nat, p.es.getD k 0 = (q : Int) := ⟨(p.es.getD k 0).toNat, by omega⟩
      have HDK1 := Lib.hid (HD1.out k)
      have HDK0 := Lib.hid (HD0.out k)
      have HHK := Lib.hid (HHIT.out k hlt)
      have HPK := Lib.hid (HPASS.out k hlt)
      rw [hq] at ck hx HDK1 HDK0
      rw [Int.toNat_natCast] at HDK1 HDK0
      have hqk : q < g.es.length := by omega
      obtain ⟨b2, off2, hAe, hb2, hd⟩ := Eds.cells (HGE.out _ HS.out.1) hqk
      obtain ⟨d0, d1, d2⟩ := hd q hqk
      subst hPe hAe
      have i0 : (0 : Int) ≤ (k : Int) := by omega
      have i1 : (k : Int) < (p.es.length : Int) := by omega
      have i3 : p.es.length ≤ 1000 := HLL.out.2
      have i2 : ((k : Int)).toNat = k := by omega
      have j0 : (0 : Int) ≤ (q : Int) := by omega
      have j1 : (q : Int) < (g.es.length : Int) := by omega
      have j2 : ((q : Int)).toNat = q := by omega
      have HLT := Lib.hid hlt
      have HM : Hid (p.es.length - ((k : Int) + 1).toNat < p.es.length - ((k : Int)).toNat) := Lib.hid (by omega)
      generalize g.es.getD q default = y at *
      obtain ⟨ty, fr, tt⟩ := y
      dsimp only at d0 d1 d2 HDK1 HDK0
      clear hc hd hx hq hlt
      go_upto_region 10 with fail
      go_cut [8] (fun u wx => ∃ gx : Nat, u = .pointer (some ⟨gx, 0, none⟩) ∧ BX3 gx (.int .i64 ty) (.int .i64 fr) (.int .i64 tt) 73 wx ∧ Below wr.heap.size wr wx)
      case first =>
        go_wp2_with fail
        have HM : Hid (∀ u, Below wr.drew.heap.size wr.drew u → (fun u : World => u.cell? ⟨w.heap.size, 1, none⟩ = some (.slice (some ⟨b2, off2, none⟩) g.es.length ce) ∧ u.cell? ⟨w.heap.size + 1, 1, none⟩ = some (.slice (some ⟨b, off, none⟩) p.es.length pe) ∧ u.cell? ⟨b, off + k, none⟩ = some (.int .i64 (q : Int)) ∧ u.cell? ⟨b2, off2 + q * 3, none⟩ = some (.int .i64 ty) ∧ u.cell? ⟨b2, off2 + q * 3 + 1, none⟩ = some (.int .i64 fr) ∧ u.cell? ⟨b2, off2 + q * 3 + 2, none⟩ = some (.int .i64 tt)) u) := Lib.hid fun u hu => ⟨cell_up hu c1, cell_up hu c3, cell_up hu ck, cell_up hu d0, cell_up hu d1, cell_up hu d2⟩
        have HVD := Lib.hid (below_d wr)
        have WD0 := Lib.hid (Below.refl wr.drew.heap.size wr.drew)
        clear c0 c1 c2 c3 ck d0 d1 d2
        refine wp_region_noPanic ?_
        refine wp_region_held_drew (S := (fun u : World => u.cell? ⟨w.heap.size, 1, none⟩ = some (.slice (some ⟨b2, off2, none⟩) g.es.length ce) ∧ u.cell? ⟨w.heap.size + 1, 1, none⟩ = some (.slice (some ⟨b, off, none⟩) p.es.length pe) ∧ u.cell? ⟨b, off + k, none⟩ = some (.int .i64 (q : Int)) ∧ u.cell? ⟨b2, off2 + q * 3, none⟩ = some (.int .i64 ty) ∧ u.cell? ⟨b2, off2 + q * 3 + 1, none⟩ = some (.int .i64 fr) ∧ u.cell? ⟨b2, off2 + q * 3 + 2, none⟩ = some (.int .i64 tt))) (by kernel_rfl) (HM.out _ WD0.out) (fun hHeld => ?_)
        generalize wr.drew = wd at *
        refine wpAnyH_take (i := 0) (v := ?_) (oper_at (r := _) rfl) (by kernel_rfl) (by kernel_rfl) (by kernel_rfl) (fun _ _ _ h => h) (Or.inl ⟨by rfl, ?_⟩) (by assumption) ?_
        rotate_left
        · intro w hSw; try dsimp only at hSw
          go_simp
          try with_reducible rfl
        try simp only [Act.put, List.setIfInBounds_toArray, List.set_cons_zero, List.set_cons_succ]
        refine wpAnyH_take (i := 1) (v := ?_) (oper_at (r := _) rfl) (by kernel_rfl) (by kernel_rfl) (by kernel_rfl) (fun _ _ _ h => h) (Or.inl ⟨by rfl, ?_⟩) (by assumption) ?_
        rotate_left
        · intro w hSw; try dsimp only at hSw
          go_simp
          try with_reducible rfl
        try simp only [Act.put, List.setIfInBounds_toArray, List.set_cons_zero, List.set_cons_succ]
        refine wpAnyH_take (i := 2) (v := ?_) (oper_at (r := _) rfl) (by kernel_rfl) (by kernel_rfl) (by kernel_rfl) (fun _ _ _ h => h) (Or.inl ⟨by rfl, ?_⟩) (by assumption) ?_
        rotate_left
        · intro w hSw; try dsimp only at hSw
          go_simp
          try with_reducible rfl
        try simp only [Act.put, List.setIfInBounds_toArray, List.set_cons_zero, List.set_cons_succ]
        refine wpAnyH_take (i := 3) (v := ?_) (oper_at (r := _) rfl) (by kernel_rfl) (by kernel_rfl) (by kernel_rfl) (fun _ _ _ h => h) (Or.inl ⟨by rfl, ?_⟩) (by assumption) ?_
        rotate_left
        · intro w hSw; try dsimp only at hSw
          go_simp
          try with_reducible rfl
        try simp only [Act.put, List.setIfInBounds_toArray, List.set_cons_zero, List.set_cons_succ]
        refine wpAnyH_take (i := 4) (v := ?_) (oper_at (r := _) rfl) (by kernel_rfl) (by kernel_rfl) (by kernel_rfl) (fun _ _ _ h => h) (Or.inl ⟨by rfl, ?_⟩) (by assumption) ?_
        rotate_left
        · intro w hSw; try dsimp only at hSw
          go_simp
          try with_reducible rfl
        try simp only [Act.put, List.setIfInBounds_toArray, List.set_cons_zero, List.set_cons_succ]
        refine wpAnyH_take (i := 5) (v := ?_) (oper_at (r := _) rfl) (by kernel_rfl) (by kernel_rfl) (by kernel_rfl) (fun _ _ _ h => h) (Or.inl ⟨by rfl, ?_⟩) (by assumption) ?_
        rotate_left
        · intro w hSw; try dsimp only at hSw
          go_simp
          try with_reducible rfl
        try simp only [Act.put, List.setIfInBounds_toArray, List.set_cons_zero, List.set_cons_succ]
        refine wpAnyH_take (i := 6) (v := ?_) (oper_at (r := _) rfl) (by kernel_rfl) (by kernel_rfl) (by kernel_rfl) (fun _ _ _ h => h) (Or.inl ⟨by rfl, ?_⟩) (by assumption) ?_
        rotate_left
        · intro w hSw; try dsimp only at hSw
          go_simp
          try with_reducible rfl
        try simp only [Act.put, List.setIfInBounds_toArray, List.set_cons_zero, List.set_cons_succ]
        refine wpAnyH_take (i := 7) (v := ?_) (oper_at (r := _) rfl) (by kernel_rfl) (by kernel_rfl) (by kernel_rfl) (fun _ _ _ h => h) (Or.inl ⟨by rfl, ?_⟩) (by assumption) ?_
        rotate_left
        · intro w hSw; try dsimp only at hSw
          go_simp
          try with_reducible rfl
        try simp only [Act.put, List.setIfInBounds_toArray, List.set_cons_zero, List.set_cons_succ]
        refine wpAnyH_take (i := 8) (v := ?_) (oper_at (r := _) rfl) (by kernel_rfl) (by kernel_rfl) (by kernel_rfl) (fun _ _ _ h => h) (Or.inl ⟨by rfl, ?_⟩) (by assumption) ?_
        rotate_left
        · intro w hSw; try dsimp only at hSw
          go_simp
          try with_reducible rfl
        try simp only [Act.put, List.setIfInBounds_toArray, List.set_cons_zero, List.set_cons_succ]
        refine wpAnyH_ready (rs := [9]) (by kernel_rfl) (by simp) ?_
        refine AllReadyH.cons (oper_at (r := _) rfl) (fun K hK => ?_) AllReadyH.nil
        have hx : BX3 wd.heap.size (.int .i64 0) (.int .i64 0) (.int .i64 0) 73 (wd.alloc (.cells #[.int .i64 0, .int .i64 0, .int .i64 0] 73)) := heap_alloc_new _ _
        have hb : Below wd.heap.size wd (wd.alloc (.cells #[.int .i64 0, .int .i64 0, .int .i64 0] 73)) := (Below.refl _ _).alloc (Nat.le_refl _) _
        have HX1 := Lib.hid hx
        have HB1 := Lib.hid hb
        clear hx hb
        go_simp
        refine hK.out _ _ (HM.out _ HB1.out) (fun _ => ?_)
        clear hK K
        try simp only [Act.put, List.setIfInBounds_toArray, List.set_cons_zero, List.set_cons_succ]
        generalize wd.alloc (.cells #[.int .i64 0, .int .i64 0, .int .i64 0] 73) = u1 at *
        obtain ⟨gx, hgx⟩ : ∃ g, g = wd.heap.size := ⟨_, rfl⟩
        have hlg : wd.heap.size ≤ gx := by omega
        have HLG := Lib.hid hlg
        rw [← hgx] at HX1
        rw [← hgx]
        clear hgx hlg
        refine wpAnyH_ready (rs := [10]) (by kernel_rfl) (by simp) ?_
        refine AllReadyH.cons (oper_at (r := _) rfl) (fun K hK => ?_) AllReadyH.nil
        have fr0 : u1.frozen? ⟨gx, 0, none⟩ = false := frozen_of_row _ _ _ _ _ HX1.out
        have fr1 : u1.frozen? ⟨gx, 1, none⟩ = false := frozen_of_row _ _ _ _ _ HX1.out
        have fr2 : u1.frozen? ⟨gx, 2, none⟩ = false := frozen_of_row _ _ _ _ _ HX1.out
        obtain ⟨y0, y1, y2⟩ := HX1.out.cells
        go_simp
        clear fr0 fr1 fr2 y0 y1 y2
        have hx : BX3 gx (.int .i64 ty) (.int .i64 fr) (.int .i64 tt) 73 (((u1.setCell ⟨gx, 0, none⟩ (.int .i64 ty)).setCell ⟨gx, 1, none⟩ (.int .i64 fr)).setCell ⟨gx, 2, none⟩ (.int .i64 tt)) := heap_setCell_same _ gx 2 _ _ _ (heap_setCell_same _ gx 1 _ _ _ (heap_setCell_same _ gx 0 _ _ _ HX1.out))
        have hb : Below wd.heap.size wd (((u1.setCell ⟨gx, 0, none⟩ (.int .i64 ty)).setCell ⟨gx, 1, none⟩ (.int .i64 fr)).setCell ⟨gx, 2, none⟩ (.int .i64 tt)) := ((HB1.out.setCell (p := ⟨gx, 0, none⟩) HLG.out _).setCell (p := ⟨gx, 1, none⟩) HLG.out _).setCell (p := ⟨gx, 2, none⟩) HLG.out _
        have HX2 := Lib.hid hx
        have HB2 := Lib.hid hb
        clear hx hb
        refine hK.out _ _ (HM.out _ HB2.out) (fun _ => ?_)
        clear hK K
        try simp only [Act.put, List.setIfInBounds_toArray, List.set_cons_zero, List.set_cons_succ]
        refine wpAnyH_done (by kernel_rfl) ?_ _
        refine NoPanic.normal ?_
        go_wp2_with fail
        go_meet
        exact ⟨gx, rfl, HX2.out, HVD.out.trans (HB2.out.mono HVD.out.size)⟩
      case rest =>
        obtain ⟨gx, rfl, hx, hb⟩ := hcut
        have HSX := Lib.hid (HS.out.up hb)
        obtain ⟨x0, x1, x2⟩ := hx.cells
        clear c0 c1 c2 c3 ck d0 d1 d2 hb
        obtain ⟨c2, c3⟩ := HSX.out.cell (i := 1) rfl
        have HQ1 := Lib.hid (HHS.out fr wc HSX.out.1)
        have HQ2 := Lib.hid (HHS.out tt wc HSX.out.1)
        have HY : Hid (decide (fr ∈ p.ns) = true → decide (tt ∈ p.ns) = true → R = fstN F (k + 1) (p.es.length - (k + 1))) := Lib.hid fun h1 h2 => by rw [HR.out, HPK.out (HDK0.out ⟨of_decide_eq_true h1, of_decide_eq_true h2⟩)]
        have HN1 : Hid (decide (fr ∈ p.ns) = false → R = 14) := Lib.hid fun h1 => by
          have e := HDK1.out fun h => of_decide_eq_false h1 h.1
          rw [HR.out, HHK.out (by rw [e]; omega), e]
        have HN2 : Hid (decide (tt ∈ p.ns) = false → R = 14) := Lib.hid fun h1 => by
          have e := HDK1.out fun h => of_decide_eq_false h1 h.2
          rw [HR.out, HHK.out (by rw [e]; omega), e]
        generalize decide (fr ∈ p.ns) = z1 at *
        generalize decide (tt ∈ p.ns) = z2 at *
        clear hx
        cases z1
        case false =>
          have HE := Lib.hid (HN1.out rfl)
          clear HN1 HN2 HY
          go_wp2_with fail
          refine HQ1.out.mono ?_
          rintro e w8 ⟨rfl, rfl⟩
          go_wp2_with fail
          go_ret
          exact ⟨ret_int (by rw [HE.out]; rfl), HSX.out.1⟩
        case true =>
          cases z2
          case false =>
            have HE := Lib.hid (HN2.out rfl)
            clear HN1 HN2 HY
            go_wp2_with fail
            refine HQ1.out.mono ?_
            rintro e w8 ⟨rfl, rfl⟩
            go_wp2_with fail
            refine HQ2.out.mono ?_
            rintro e w9 ⟨rfl, rfl⟩
            go_wp2_with fail
            go_ret
            exact ⟨ret_int (by rw [HE.out]; rfl), HSX.out.1⟩
          case true =>
            have HE := Lib.hid (HY.out rfl rfl)
            clear HN1 HN2 HY
            go_wp2_with fail
            refine HQ1.out.mono ?_
            rintro e w8 ⟨rfl, rfl⟩
            go_wp2_with fail
            refine HQ2.out.mono ?_
            rintro e w9 ⟨rfl, rfl⟩
            go_wp2_with fail
            go_roundw
            case rel => exact ⟨k + 1, HLT.out, by go_num, HSX.out, HE.out⟩
            case measure => exact HM.out
    · have HN : Hid (R = 0) := Lib.hid (by rw [HR.out]; exact HEND.out k (by omega))
      go_wp2_with fail
      go_ret
      exact ⟨ret_int (by rw [HN.out]; rfl), HS.out.1⟩

def BelowRet (E : Nat) (w : World) (e : Ending) (w' : World) : Prop := e = .returned (.int .i64 (E : Int)) ∧ Below w.heap.size w w'
set_option maxRecDepth 100000 in
set_option maxHeartbeats 4000000 in
theorem valid7_any : ValidC 104 := by
  intro g p An cn Ae ce Pn pn Pe pe w hg hp
  have hS0 : SR w _ ((w.alloc (.cells #[.slice An g.ns.length cn, .slice Ae g.es.length ce] 25)).alloc (.cells #[.slice Pn p.ns.length pn, .slice Pe p.es.length pe] 27)) := SR.push (SR.push (SR.nil w) rfl _ _ _) (by simp) _ _ _
  have HV := Lib.hid (fun (u : World) (hu : Below w.heap.size w u) => validR_any g An cn Ae ce u (hg.up hu))
  have HR := Lib.hid (fun (u : World) (hu : Below w.heap.size w u) => right7_any g p An cn Ae ce Pn pn Pe pe u (hg.up hu) (hp.up hu))
  have HX : Hid (partE g p = if validE g ≠ 0 then validE g else rightE g p) := Lib.hid rfl
  have HS0 := Lib.hid hS0
  clear hg hp hS0
  generalize partE g p = R at *
  generalize validE g = v at *
  generalize rightE g p = r at *
  go_enter Tryd.func104, Tryd.ntmps104
  obtain ⟨c0, c1⟩ := HS0.out.cell (i := 0) rfl
  obtain ⟨c2, c3⟩ := HS0.out.cell (i := 1) rfl
  simp only [Nat.add_zero] at c0 c1
  go_wp2_with fail
  refine (HV.out _ HS0.out.1).mono ?_
  rintro e w1 ⟨rfl, hb1⟩
  have HS1 := Lib.hid (HS0.out.up hb1)
  clear hb1 HS0 HV c0 c1 c2 c3
  obtain ⟨c0, c1⟩ := HS1.out.cell (i := 0) rfl
  obtain ⟨c2, c3⟩ := HS1.out.cell (i := 1) rfl
  simp only [Nat.add_zero] at c0 c1
  by_cases h1 : v = 0
  case neg =>
    have HE := Lib.hid (show R = v by rw [HX.out, if_pos h1])
    have t1 : ((v : Int) != 0) = true := by simp; omega
    clear h1
    go_wp2_with fail
    go_ret
    exact ⟨ret_int (by rw [HE.out]), HS1.out.1⟩
  have HE := Lib.hid (show R = r by rw [HX.out, if_neg (by omega)])
  have t1 : ((v : Int) != 0) = false := by simp; omega
  clear h1 HX
  go_wp2_with fail
  refine (HR.out _ HS1.out.1).mono ?_
  rintro e w2 ⟨rfl, hb2⟩
  have HB2 := Lib.hid (HS1.out.1.trans (hb2.mono HS1.out.1.size))
  clear hb2 c0 c1 c2 c3 t1
  go_wp2_with fail
  go_ret
  exact ⟨ret_int (by rw [HE.out]), HB2.out⟩

set_option maxRecDepth 100000 in
set_option maxHeartbeats 4000000 in
theorem both7_any (g : Gr) (p q : Mo) (An : Option Addr) (cn : Nat) (Ae : Option Addr) (ce : Nat) (Pn : Option Addr) (pn : Nat) (Pe : Option Addr) (pe : Nat) (Qn : Option Addr) (qn : Nat) (Qe : Option Addr) (qe : Nat) (w : World) (hg : GrAt w An cn Ae ce g) (hp : PtAt w Pn Pe p) (hq : PtAt w Qn Qe q) :
    Calls Tryd.prog 84 #[gval An g.ns.length cn Ae g.es.length ce, gval Pn p.ns.length pn Pe p.es.length pe, gval Qn q.ns.length qn Qe q.es.length qe] w fun e w' => e = .returned (.int .i64 (twoE g p q : Nat)) ∧ Below w.heap.size w w' := by
  have hS0 : SR w _ (((w.alloc (.cells #[.slice An g.ns.length cn, .slice Ae g.es.length ce] 25)).alloc (.cells #[.slice Pn p.ns.length pn, .slice Pe p.es.length pe] 27)).alloc (.cells #[.slice Qn q.ns.length qn, .slice Qe q.es.length qe] 27)) := SR.push (SR.push (SR.push (SR.nil w) rfl _ _ _) (by simp) _ _ _) (by simp) _ _ _
  have HV := Lib.hid (fun (u : World) (hu : Below w.heap.size w u) => valid7_any g p An cn Ae ce Pn pn Pe pe u (hg.up hu) (hp.up hu))
  have HR := Lib.hid (fun (u : World) (hu : Below w.heap.size w u) => right7_any g q An cn Ae ce Qn qn Qe qe u (hg.up hu) (hq.up hu))
  have HX : Hid (twoE g p q = if partE g p ≠ 0 then partE g p else rightE g q) := Lib.hid rfl
  have HS0 := Lib.hid hS0
  clear hg hp hq hS0
  generalize twoE g p q = R at *
  generalize partE g p = v at *
  generalize rightE g q = r at *
  go_enter Tryd.func84, Tryd.ntmps84
  obtain ⟨c0, c1⟩ := HS0.out.cell (i := 0) rfl
  obtain ⟨c2, c3⟩ := HS0.out.cell (i := 1) rfl
  obtain ⟨c4, c5⟩ := HS0.out.cell (i := 2) rfl
  simp only [Nat.add_zero] at c0 c1
  go_wp2_with fail
  refine (HV.out _ HS0.out.1).mono ?_
  rintro e w1 ⟨rfl, hb1⟩
  have HS1 := Lib.hid (HS0.out.up hb1)
  clear hb1 HS0 HV c0 c1 c2 c3 c4 c5
  obtain ⟨c0, c1⟩ := HS1.out.cell (i := 0) rfl
  obtain ⟨c4, c5⟩ := HS1.out.cell (i := 2) rfl
  simp only [Nat.add_zero] at c0 c1
  by_cases h1 : v = 0
  case neg =>
    have HE := Lib.hid (show R = v by rw [HX.out, if_pos h1])
    have t1 : ((v : Int) != 0) = true := by simp; omega
    clear h1
    go_wp2_with fail
    go_ret
    exact ⟨ret_int (by rw [HE.out]), HS1.out.1⟩
  have HE := Lib.hid (show R = r by rw [HX.out, if_neg (by omega)])
  have t1 : ((v : Int) != 0) = false := by simp; omega
  clear h1 HX
  go_wp2_with fail
  refine (HR.out _ HS1.out.1).mono ?_
  rintro e w2 ⟨rfl, hb2⟩
  have HB2 := Lib.hid (HS1.out.1.trans (hb2.mono HS1.out.1.size))
  clear hb2 c0 c1 c4 c5 t1
  go_wp2_with fail
  go_ret
  exact ⟨ret_int (by rw [HE.out]), HB2.out⟩

end Go.Proofs.YthnhacncnhknnaaDoor

/-
  Parts of graphs, the reference: combined, Join, Meet, Image, Preimage. Printed by mkr4.py.
-/
namespace Go.Proofs.YthnhacncnhknnaaDoor
open Go.RowKit Go.Shelf

def combP (all : Bool) (g : Gr) (p q : Mo) : Mo := ⟨sel (fun i => mrg all (inB p.ns i) (inB q.ns i)) g.ns.length, sel (fun i => mrg all (inB p.es i) (inB q.es i)) g.es.length⟩
def combR (all : Bool) (g : Gr) (p q : Mo) : Mo := if twoE g p q = 0 then combP all g p q else noM
theorem into7_any (m l : List Int) (A A2 : Option Addr) (c c2 : Nat) (w : World) (hm : m.length ≤ 1000) (hl : l.length ≤ 1000) (hA : Ints w w.heap.size A m) (hB : Ints w w.heap.size A2 l) :
    Calls Tryd.prog 51 #[.slice A m.length c, .slice A2 l.length c2] w fun e w' => ∃ v, e = .returned v ∧ OwnI w' w.heap.size v (intoL m l) ∧ Below w.heap.size w w' := into_any m l A A2 c c2 w hm hl hA hB
theorem comb_join (g : Gr) (p q : Mo) : combR false g p q = joinP g p q := by
  unfold combR joinP combP orP orL
  simp only [mrg_or]
theorem comb_meet (g : Gr) (p q : Mo) : combR true g p q = meetP g p q := by
  unfold combR meetP combP andP andL
  simp only [mrg_and]

set_option maxRecDepth 100000 in
set_option maxHeartbeats 4000000 in
theorem combined7_any (g : Gr) (p : Mo) (q : Mo) (all : Bool) (An : Option Addr) (cn : Nat) (Ae : Option Addr) (ce : Nat) (Pn : Option Addr) (pn : Nat) (Pe : Option Addr) (pe : Nat) (Qn : Option Addr) (qn : Nat) (Qe : Option Addr) (qe : Nat) (w : World) (hg : GrAt w An cn Ae ce g) (hp : PtAt w Pn Pe p) (hq : PtAt w Qn Qe q) :
    GivesM 54 #[gval An g.ns.length cn Ae g.es.length ce, gval Pn p.ns.length pn Pe p.es.length pe, gval Qn q.ns.length qn Qe q.es.length qe, .bool all] (twoE g p q) (combR all g p q) w := by
  have hS0 : SR w _ ((((w.alloc (.cells #[.slice An g.ns.length cn, .slice Ae g.es.length ce] 25)).alloc (.cells #[.slice Pn p.ns.length pn, .slice Pe p.es.length pe] 27)).alloc (.cells #[.slice Qn q.ns.length qn, .slice Qe q.es.length qe] 27)).alloc (.cells #[.slice none 0 0, .slice none 0 0] 27)) := SR.push (SR.push (SR.push (SR.push (SR.nil w) rfl _ _ _) (by simp) _ _ _) (by simp) _ _ _) (by simp) _ _ _
  have HS0 := Lib.hid hS0
  have HB7 := Lib.hid (fun (u : World) (hu : Below w.heap.size w u) => both7_any g p q An cn Ae ce Pn pn Pe pe Qn qn Qe qe u (hg.up hu) (hp.up hu) (hq.up hu))
  have HC1 := Lib.hid (fun (u : World) (hu : Below w.heap.size w u) => fun (hl : g.ns.length ≤ 1000) => merged_any g.ns.length p.ns q.ns all Pn Qn pn qn u hl hp.ln hq.ln (Reads.up hp.ns hu) (Reads.up hq.ns hu))
  have HC2 := Lib.hid (fun (u : World) (hu : Below w.heap.size w u) => fun (hl : g.es.length ≤ 1000) => merged_any g.es.length p.es q.es all Pe Qe pe qe u hl hp.le hq.le (Reads.up hp.es hu) (Reads.up hq.es hu))
  have HZ : Hid (twoE g p q = 0 → g.ns.length ≤ 1000 ∧ g.es.length ≤ 1000) := Lib.hid fun h => by obtain ⟨l1, l2, _⟩ := valid_zero (two_zero.1 h).1; exact ⟨by omega, by omega⟩
  have HI : Hid (combR all g p q = if twoE g p q = 0 then combP all g p q else noM) := Lib.hid rfl
  clear hS0 hg hp hq
  generalize combR all g p q = R at *
  generalize twoE g p q = E at *
  refine givesM ?_
  go_enter Tryd.func54, Tryd.ntmps54
  obtain ⟨c0x, c0y⟩ := HS0.out.cell (i := 0) rfl
  obtain ⟨c1x, c1y⟩ := HS0.out.cell (i := 1) rfl
  obtain ⟨c2x, c2y⟩ := HS0.out.cell (i := 2) rfl
  obtain ⟨c3x, c3y⟩ := HS0.out.cell (i := 3) rfl
  simp only [Nat.add_zero] at c0x c0y
  have fr0 := HS0.out.free (i := 3) rfl 0
  have fr1 := HS0.out.free (i := 3) rfl 1
  go_wp2_with fail
  refine (HB7.out _ HS0.out.1).mono ?_
  rintro e w1 ⟨rfl, hb⟩
  have HS1 := Lib.hid (HS0.out.up hb)
  clear hb HS0 HB7 c0x c0y c1x c1y c2x c2y c3x c3y fr0 fr1
  obtain ⟨c0x, c0y⟩ := HS1.out.cell (i := 0) rfl
  obtain ⟨c1x, c1y⟩ := HS1.out.cell (i := 1) rfl
  obtain ⟨c2x, c2y⟩ := HS1.out.cell (i := 2) rfl
  obtain ⟨c3x, c3y⟩ := HS1.out.cell (i := 3) rfl
  simp only [Nat.add_zero] at c0x c0y
  have fr0 := HS1.out.free (i := 3) rfl 0
  have fr1 := HS1.out.free (i := 3) rfl 1
  by_cases h1 : E = 0
  case neg =>
    have HEE : Hid (E = E) := Lib.hid rfl
    have HR := Lib.hid (show R = noM by rw [HI.out, if_neg (by rw [HEE.out]; exact h1)])
    have t1 : ((E : Int) != 0) = true := by simp; omega
    clear h1
    go_wp2_with fail
    have hS2 := HS1.out.set (i := 3) rfl (.slice none 0 0) (.slice none 0 0)
    obtain ⟨r0, r1⟩ := hS2.cell (i := 3) rfl
    refine bodyPost_ret (v := .tuple #[gval none 0 0 none 0 0, .int .i64 ((E : Nat))]) (by simp [results, Tryd.results54, go_sem, r0, r1]) rfl ?_
    exact ⟨⟨_, rfl, by rw [HR.out]; exact isM_nil _⟩, hS2.1⟩
  have HEE := Lib.hid (show E = 0 from h1)
  have HR := Lib.hid (show R = ⟨sel (fun i => mrg all (inB p.ns i) (inB q.ns i)) g.ns.length, sel (fun i => mrg all (inB p.es i) (inB q.es i)) g.es.length⟩ by rw [HI.out, if_pos HEE.out]; rfl)
  have t1 : ((E : Int) != 0) = false := by simp; omega
  obtain ⟨l1, l2⟩ := HZ.out HEE.out
  replace HC1 := Lib.hid (fun u hu => HC1.out u hu l1)
  replace HC2 := Lib.hid (fun u hu => HC2.out u hu l2)
  clear l1 l2 HZ
  generalize sel (fun i => mrg all (inB p.ns i) (inB q.ns i)) g.ns.length = L1 at *
  generalize sel (fun i => mrg all (inB p.es i) (inB q.es i)) g.es.length = L2 at *
  clear h1 HI
  go_wp2_with fail
  have HSd : Hid (SR w _ w1.drew) := Lib.hid (HS1.out.up (below_d _))
  have HSA : Hid ((fun u : World => u.cell? ⟨w.heap.size, 0, none⟩ = some (.slice An g.ns.length cn) ∧ u.cell? ⟨w.heap.size, 1, none⟩ = some (.slice Ae g.es.length ce) ∧ u.cell? ⟨w.heap.size + 1, 0, none⟩ = some (.slice Pn p.ns.length pn) ∧ u.cell? ⟨w.heap.size + 1, 1, none⟩ = some (.slice Pe p.es.length pe) ∧ u.cell? ⟨w.heap.size + 2, 0, none⟩ = some (.slice Qn q.ns.length qn) ∧ u.cell? ⟨w.heap.size + 2, 1, none⟩ = some (.slice Qe q.es.length qe)) w1.drew) := Lib.hid ⟨c0x, c0y, c1x, c1y, c2x, c2y⟩
  have HUP : Hid (∀ u u', (fun u : World => u.cell? ⟨w.heap.size, 0, none⟩ = some (.slice An g.ns.length cn) ∧ u.cell? ⟨w.heap.size, 1, none⟩ = some (.slice Ae g.es.length ce) ∧ u.cell? ⟨w.heap.size + 1, 0, none⟩ = some (.slice Pn p.ns.length pn) ∧ u.cell? ⟨w.heap.size + 1, 1, none⟩ = some (.slice Pe p.es.length pe) ∧ u.cell? ⟨w.heap.size + 2, 0, none⟩ = some (.slice Qn q.ns.length qn) ∧ u.cell? ⟨w.heap.size + 2, 1, none⟩ = some (.slice Qe q.es.length qe)) u → Below u.heap.size u u' → (fun u : World => u.cell? ⟨w.heap.size, 0, none⟩ = some (.slice An g.ns.length cn) ∧ u.cell? ⟨w.heap.size, 1, none⟩ = some (.slice Ae g.es.length ce) ∧ u.cell? ⟨w.heap.size + 1, 0, none⟩ = some (.slice Pn p.ns.length pn) ∧ u.cell? ⟨w.heap.size + 1, 1, none⟩ = some (.slice Pe p.es.length pe) ∧ u.cell? ⟨w.heap.size + 2, 0, none⟩ = some (.slice Qn q.ns.length qn) ∧ u.cell? ⟨w.heap.size + 2, 1, none⟩ = some (.slice Qe q.es.length qe)) u') := Lib.hid fun u u' h hb => ⟨cell_up hb h.1, cell_up hb h.2.1, cell_up hb h.2.2.1, cell_up hb h.2.2.2.1, cell_up hb h.2.2.2.2.1, cell_up hb h.2.2.2.2.2⟩
  have HWS : Hid (w.heap.size + 3 < w1.drew.heap.size) := Lib.hid (heap_lt (HS1.out.2 3 _ rfl))
  have HWL : Hid (w.heap.size ≤ w1.drew.heap.size) := Lib.hid HS1.out.1.size
  clear t1 c0x c0y c1x c1y c2x c2y c3x c3y fr0 fr1 HS1
  refine wp_region_noPanic ?_
  refine wp_region_held_drew (S := (fun u : World => u.cell? ⟨w.heap.size, 0, none⟩ = some (.slice An g.ns.length cn) ∧ u.cell? ⟨w.heap.size, 1, none⟩ = some (.slice Ae g.es.length ce) ∧ u.cell? ⟨w.heap.size + 1, 0, none⟩ = some (.slice Pn p.ns.length pn) ∧ u.cell? ⟨w.heap.size + 1, 1, none⟩ = some (.slice Pe p.es.length pe) ∧ u.cell? ⟨w.heap.size + 2, 0, none⟩ = some (.slice Qn q.ns.length qn) ∧ u.cell? ⟨w.heap.size + 2, 1, none⟩ = some (.slice Qe q.es.length qe))) (by kernel_rfl) (HSA.out) (fun hHeld => ?_)
  generalize w1.drew = wd at *
  refine wpAnyH_take (i := 0) (v := ?_) (oper_at (r := _) rfl) (by kernel_rfl) (by kernel_rfl) (by kernel_rfl) (fun _ _ _ h => h) (Or.inl ⟨by rfl, ?_⟩) (by assumption) ?_
  rotate_left
  · intro w hSw; try dsimp only at hSw
    go_simp
    try with_reducible rfl
  try simp only [Act.put, List.setIfInBounds_toArray, List.set_cons_zero, List.set_cons_succ]
  refine wpAnyH_take (i := 1) (v := ?_) (oper_at (r := _) rfl) (by kernel_rfl) (by kernel_rfl) (by kernel_rfl) (fun _ _ _ h => h) (Or.inl ⟨by rfl, ?_⟩) (by assumption) ?_
  rotate_left
  · intro w hSw; try dsimp only at hSw
    go_simp
    try with_reducible rfl
  try simp only [Act.put, List.setIfInBounds_toArray, List.set_cons_zero, List.set_cons_succ]
  refine wpAnyH_take (i := 2) (v := ?_) (oper_at (r := _) rfl) (by kernel_rfl) (by kernel_rfl) (by kernel_rfl) (fun _ _ _ h => h) (Or.inl ⟨by rfl, ?_⟩) (by assumption) ?_
  rotate_left
  · intro w hSw; try dsimp only at hSw
    go_simp
    try with_reducible rfl
  try simp only [Act.put, List.setIfInBounds_toArray, List.set_cons_zero, List.set_cons_succ]
  refine wpAnyH_take (i := 3) (v := ?_) (oper_at (r := _) rfl) (by kernel_rfl) (by kernel_rfl) (by kernel_rfl) (fun _ _ _ h => h) (Or.inl ⟨by rfl, ?_⟩) (by assumption) ?_
  rotate_left
  · intro w hSw; try dsimp only at hSw
    go_simp
    try with_reducible rfl
  try simp only [Act.put, List.setIfInBounds_toArray, List.set_cons_zero, List.set_cons_succ]
  refine wpAnyH_take (i := 4) (v := ?_) (oper_at (r := _) rfl) (by kernel_rfl) (by kernel_rfl) (by kernel_rfl) (fun _ _ _ h => h) (Or.inl ⟨by rfl, ?_⟩) (by assumption) ?_
  rotate_left
  · intro w hSw; try dsimp only at hSw
    go_simp
    try with_reducible rfl
  try simp only [Act.put, List.setIfInBounds_toArray, List.set_cons_zero, List.set_cons_succ]
  refine wpAnyH_take (i := 5) (v := ?_) (oper_at (r := _) rfl) (by kernel_rfl) (by kernel_rfl) (by kernel_rfl) (fun _ _ _ h => h) (Or.inl ⟨by rfl, ?_⟩) (by assumption) ?_
  rotate_left
  · intro w hSw; try dsimp only at hSw
    go_simp
    try with_reducible rfl
  try simp only [Act.put, List.setIfInBounds_toArray, List.set_cons_zero, List.set_cons_succ]
  refine wpAnyH_take (i := 6) (v := ?_) (oper_at (r := _) rfl) (by kernel_rfl) (by kernel_rfl) (by kernel_rfl) (fun _ _ _ h => h) (Or.inl ⟨by rfl, ?_⟩) (by assumption) ?_
  rotate_left
  · intro w hSw; try dsimp only at hSw
    go_simp
    try with_reducible rfl
  try simp only [Act.put, List.setIfInBounds_toArray, List.set_cons_zero, List.set_cons_succ]
  refine wpAnyH_take (i := 7) (v := ?_) (oper_at (r := _) rfl) (by kernel_rfl) (by kernel_rfl) (by kernel_rfl) (fun _ _ _ h => h) (Or.inl ⟨by rfl, ?_⟩) (by assumption) ?_
  rotate_left
  · intro w hSw; try dsimp only at hSw
    go_simp
    try with_reducible rfl
  try simp only [Act.put, List.setIfInBounds_toArray, List.set_cons_zero, List.set_cons_succ]
  refine wpAnyH_take (i := 9) (v := ?_) (oper_at (r := _) rfl) (by kernel_rfl) (by kernel_rfl) (by kernel_rfl) (fun _ _ _ h => h) (Or.inl ⟨by rfl, ?_⟩) (by assumption) ?_
  rotate_left
  · intro w hSw; try dsimp only at hSw
    go_simp
    try with_reducible rfl
  try simp only [Act.put, List.setIfInBounds_toArray, List.set_cons_zero, List.set_cons_succ]
  refine wpAnyH_take (i := 10) (v := ?_) (oper_at (r := _) rfl) (by kernel_rfl) (by kernel_rfl) (by kernel_rfl) (fun _ _ _ h => h) (Or.inl ⟨by rfl, ?_⟩) (by assumption) ?_
  rotate_left
  · intro w hSw; try dsimp only at hSw
    go_simp
    try with_reducible rfl
  try simp only [Act.put, List.setIfInBounds_toArray, List.set_cons_zero, List.set_cons_succ]
  refine wpAnyH_take (i := 11) (v := ?_) (oper_at (r := _) rfl) (by kernel_rfl) (by kernel_rfl) (by kernel_rfl) (fun _ _ _ h => h) (Or.inl ⟨by rfl, ?_⟩) (by assumption) ?_
  rotate_left
  · intro w hSw; try dsimp only at hSw
    go_simp
    try with_reducible rfl
  try simp only [Act.put, List.setIfInBounds_toArray, List.set_cons_zero, List.set_cons_succ]
  refine wpAnyH_take (i := 12) (v := ?_) (oper_at (r := _) rfl) (by kernel_rfl) (by kernel_rfl) (by kernel_rfl) (fun _ _ _ h => h) (Or.inl ⟨by rfl, ?_⟩) (by assumption) ?_
  rotate_left
  · intro w hSw; try dsimp only at hSw
    go_simp
    try with_reducible rfl
  try simp only [Act.put, List.setIfInBounds_toArray, List.set_cons_zero, List.set_cons_succ]
  refine wpAnyH_take (i := 13) (v := ?_) (oper_at (r := _) rfl) (by kernel_rfl) (by kernel_rfl) (by kernel_rfl) (fun _ _ _ h => h) (Or.inl ⟨by rfl, ?_⟩) (by assumption) ?_
  rotate_left
  · intro w hSw; try dsimp only at hSw
    go_simp
    try with_reducible rfl
  try simp only [Act.put, List.setIfInBounds_toArray, List.set_cons_zero, List.set_cons_succ]
  refine wpAnyH_take (i := 14) (v := ?_) (oper_at (r := _) rfl) (by kernel_rfl) (by kernel_rfl) (by kernel_rfl) (fun _ _ _ h => h) (Or.inl ⟨by rfl, ?_⟩) (by assumption) ?_
  rotate_left
  · intro w hSw; try dsimp only at hSw
    go_simp
    try with_reducible rfl
  try simp only [Act.put, List.setIfInBounds_toArray, List.set_cons_zero, List.set_cons_succ]
  refine wpAnyH_take (i := 15) (v := ?_) (oper_at (r := _) rfl) (by kernel_rfl) (by kernel_rfl) (by kernel_rfl) (fun _ _ _ h => h) (Or.inl ⟨by rfl, ?_⟩) (by assumption) ?_
  rotate_left
  · intro w hSw; try dsimp only at hSw
    go_simp
    try with_reducible rfl
  try simp only [Act.put, List.setIfInBounds_toArray, List.set_cons_zero, List.set_cons_succ]
  refine wpAnyH_take (i := 16) (v := ?_) (oper_at (r := _) rfl) (by kernel_rfl) (by kernel_rfl) (by kernel_rfl) (fun _ _ _ h => h) (Or.inl ⟨by rfl, ?_⟩) (by assumption) ?_
  rotate_left
  · intro w hSw; try dsimp only at hSw
    go_simp
    try with_reducible rfl
  try simp only [Act.put, List.setIfInBounds_toArray, List.set_cons_zero, List.set_cons_succ]
  refine wpAnyH_ready (rs := [8]) (by kernel_rfl) (by simp) ?_
  refine AllReadyH.cons (oper_at (r := _) rfl) (fun K hK => ?_) AllReadyH.nil
  go_simp
  refine (HC1.out _ HSd.out.1).mono ?_
  rintro e x2 ⟨v2, rfl, ho2, hb2⟩
  have HT2 := Lib.hid (HUP.out _ _ HSA.out hb2)
  have HLE := Lib.hid hb2.size
  have HSR2 := Lib.hid (HSd.out.up hb2)
  have HO2 := Lib.hid ho2
  obtain ⟨A2, d2, rfl⟩ := OwnE.slice ho2
  clear ho2 hb2
  go_wp2_with fail
  refine hK.out _ _ (HT2.out) (fun _ => ?_)
  clear hK K
  try simp only [Act.put, List.setIfInBounds_toArray, List.set_cons_zero, List.set_cons_succ]
  refine wpAnyH_ready (rs := [17]) (by kernel_rfl) (by simp) ?_
  refine AllReadyH.cons (oper_at (r := _) rfl) (fun K hK => ?_) AllReadyH.nil
  go_simp
  refine (HC2.out _ HSR2.out.1).mono ?_
  rintro e x3 ⟨v3, rfl, ho3, hb3⟩
  have HT3 := Lib.hid (HUP.out _ _ HT2.out hb3)
  have HSR3 := Lib.hid (HSR2.out.up hb3)
  have HOO := Lib.hid (OwnE.below HO2.out hb3 (Nat.le_refl _))
  have HO3 := Lib.hid ho3
  obtain ⟨A3, d3, rfl⟩ := OwnE.slice ho3
  clear ho3 hb3 HO2
  go_wp2_with fail
  refine hK.out _ _ (HT3.out) (fun _ => ?_)
  clear hK K
  try simp only [Act.put, List.setIfInBounds_toArray, List.set_cons_zero, List.set_cons_succ]
  refine wpAnyH_take (i := 18) (v := ?_) (oper_at (r := _) rfl) (by kernel_rfl) (by kernel_rfl) (by kernel_rfl) (fun _ _ _ h => h) (Or.inl ⟨by rfl, ?_⟩) (by assumption) ?_
  rotate_left
  · intro w hSw; try dsimp only at hSw
    go_simp
    try with_reducible rfl
  try simp only [Act.put, List.setIfInBounds_toArray, List.set_cons_zero, List.set_cons_succ]
  obtain ⟨c3x, c3y⟩ := HSR3.out.cell (i := 3) rfl
  have fr0 := HSR3.out.free (i := 3) rfl 0
  have fr1 := HSR3.out.free (i := 3) rfl 1
  have HSZ := Lib.hid (HSR3.out.set (i := 3) rfl (.slice A2 L1.length d2) (.slice A3 L2.length d3))
  obtain ⟨z0x, z0y⟩ := HSZ.out.cell (i := 0) rfl
  obtain ⟨z1x, z1y⟩ := HSZ.out.cell (i := 1) rfl
  obtain ⟨z2x, z2y⟩ := HSZ.out.cell (i := 2) rfl
  simp only [Nat.add_zero] at z0x z0y
  have HS4 : Hid ((fun u : World => u.cell? ⟨w.heap.size, 0, none⟩ = some (.slice An g.ns.length cn) ∧ u.cell? ⟨w.heap.size, 1, none⟩ = some (.slice Ae g.es.length ce) ∧ u.cell? ⟨w.heap.size + 1, 0, none⟩ = some (.slice Pn p.ns.length pn) ∧ u.cell? ⟨w.heap.size + 1, 1, none⟩ = some (.slice Pe p.es.length pe) ∧ u.cell? ⟨w.heap.size + 2, 0, none⟩ = some (.slice Qn q.ns.length qn) ∧ u.cell? ⟨w.heap.size + 2, 1, none⟩ = some (.slice Qe q.es.length qe)) _) := Lib.hid ⟨z0x, z0y, z1x, z1y, z2x, z2y⟩
  clear z0x z0y z1x z1y z2x z2y
  refine wpAnyH_ready (rs := [19]) (by kernel_rfl) (by simp) ?_
  refine AllReadyH.cons (oper_at (r := _) rfl) (fun K hK => ?_) AllReadyH.nil
  go_simp
  refine hK.out _ _ (HS4.out) (fun _ => ?_)
  clear hK K
  try simp only [Act.put, List.setIfInBounds_toArray, List.set_cons_zero, List.set_cons_succ]
  refine wpAnyH_take (i := 20) (v := ?_) (oper_at (r := _) rfl) (by kernel_rfl) (by kernel_rfl) (by kernel_rfl) (fun _ _ _ h => h) (Or.inl ⟨by rfl, ?_⟩) (by assumption) ?_
  rotate_left
  · intro w hSw; try dsimp only at hSw
    go_simp
    try with_reducible rfl
  try simp only [Act.put, List.setIfInBounds_toArray, List.set_cons_zero, List.set_cons_succ]
  refine wpAnyH_done (by kernel_rfl) ?_ _
  refine NoPanic.normal ?_
  go_wp2_with fail
  obtain ⟨r0, r1⟩ := HSZ.out.cell (i := 3) rfl
  have hlt := HWS.out
  have hle := HLE.out
  refine bodyPost_ret (v := .tuple #[.agg #[.slice A2 L1.length d2, .slice A3 L2.length d3], .int .i64 0]) (by simp [results, Tryd.results54, go_sem, r0, r1]) rfl ?_
  have s1 : OwnI ((x3.setCell ⟨w.heap.size + 3, 0, none⟩ (.slice A2 L1.length d2)).setCell ⟨w.heap.size + 3, 1, none⟩ (.slice A3 L2.length d3)) _ _ _ := ownsRow_setCell_below (ownsRow_setCell_below HOO.out (by show w.heap.size + 3 < wd.heap.size; exact hlt) _) (by show w.heap.size + 3 < wd.heap.size; exact hlt) _
  have s2 : OwnI ((x3.setCell ⟨w.heap.size + 3, 0, none⟩ (.slice A2 L1.length d2)).setCell ⟨w.heap.size + 3, 1, none⟩ (.slice A3 L2.length d3)) _ _ _ := ownsRow_setCell_below (ownsRow_setCell_below HO3.out (by show w.heap.size + 3 < x2.heap.size; exact Nat.lt_of_lt_of_le hlt hle) _) (by show w.heap.size + 3 < x2.heap.size; exact Nat.lt_of_lt_of_le hlt hle) _
  exact ⟨⟨.agg #[.slice A2 L1.length d2, .slice A3 L2.length d3], by rw [HEE.out]; rfl, by rw [HR.out]; exact isM_of (g := ⟨L1, L2⟩) (isI_own s1) (isI_own s2)⟩, HSZ.out.1⟩
set_option maxRecDepth 100000 in
set_option maxHeartbeats 4000000 in
theorem join7_any : TwoC 21 joinP := by
  intro g p q An cn Ae ce Pn pn Pe pe Qn qn Qe qe w hg hp hq
  have hS0 : SR w _ ((((w.alloc (.cells #[.slice An g.ns.length cn, .slice Ae g.es.length ce] 25)).alloc (.cells #[.slice Pn p.ns.length pn, .slice Pe p.es.length pe] 27)).alloc (.cells #[.slice Qn q.ns.length qn, .slice Qe q.es.length qe] 27)).alloc (.cells #[.slice none 0 0, .slice none 0 0] 27)) := SR.push (SR.push (SR.push (SR.push (SR.nil w) rfl _ _ _) (by simp) _ _ _) (by simp) _ _ _) (by simp) _ _ _
  have HB := Lib.hid (fun (u : World) (hu : Below w.heap.size w u) => combined7_any g p q false An cn Ae ce Pn pn Pe pe Qn qn Qe qe u (hg.up hu) (hp.up hu) (hq.up hu))
  have HS0 := Lib.hid hS0
  rw [← comb_join]
  clear hg hp hq hS0
  generalize twoE g p q = E at *
  generalize combR false g p q = R at *
  go_enter Tryd.func21, Tryd.ntmps21
  obtain ⟨c0, c1⟩ := HS0.out.cell (i := 0) rfl
  obtain ⟨c2, c3⟩ := HS0.out.cell (i := 1) rfl
  obtain ⟨c4, c5⟩ := HS0.out.cell (i := 2) rfl
  simp only [Nat.add_zero] at c0 c1
  go_wp2_with fail
  refine (HB.out _ HS0.out.1).mono ?_
  rintro e w1 ⟨⟨Xn, xn, Xe, xe, rfl, r1, r2, r3, r4⟩, hb1⟩
  have HS1 := Lib.hid (HS0.out.up hb1)
  have HR1 := Lib.hid r1
  have HR2 := Lib.hid r2
  have HR3 := Lib.hid (And.intro r3 r4)
  clear hb1 HS0 HB c0 c1 c2 c3 c4 c5 r1 r2 r3 r4
  obtain ⟨c6, c7⟩ := HS1.out.cell (i := 3) rfl
  have fr0 := HS1.out.free (i := 3) rfl 0
  have fr1 := HS1.out.free (i := 3) rfl 1
  go_wp2_with fail
  have HSZ := Lib.hid (HS1.out.set (i := 3) rfl (.slice Xn R.ns.length xn) (.slice Xe R.es.length xe))
  obtain ⟨r0, r1⟩ := HSZ.out.cell (i := 3) rfl
  refine bodyPost_ret (v := .tuple #[gval Xn R.ns.length xn Xe R.es.length xe, .int .i64 (E : Int)]) (by simp [results, Tryd.results21, go_sem, r0, r1]) rfl ?_
  have hbx : BX (w.heap.size + 3) (.slice none 0 0) (.slice none 0 0) 27 w1 := HS1.out.2 3 _ rfl
  exact ⟨⟨Xn, xn, Xe, xe, rfl, ints_set' HR1.out hbx _ _, ints_set' HR2.out hbx _ _, HR3.out.1, HR3.out.2⟩, HSZ.out.1⟩

set_option maxRecDepth 100000 in
set_option maxHeartbeats 4000000 in
theorem meet7_any : TwoC 23 meetP := by
  intro g p q An cn Ae ce Pn pn Pe pe Qn qn Qe qe w hg hp hq
  have hS0 : SR w _ ((((w.alloc (.cells #[.slice An g.ns.length cn, .slice Ae g.es.length ce] 25)).alloc (.cells #[.slice Pn p.ns.length pn, .slice Pe p.es.length pe] 27)).alloc (.cells #[.slice Qn q.ns.length qn, .slice Qe q.es.length qe] 27)).alloc (.cells #[.slice none 0 0, .slice none 0 0] 27)) := SR.push (SR.push (SR.push (SR.push (SR.nil w) rfl _ _ _) (by simp) _ _ _) (by simp) _ _ _) (by simp) _ _ _
  have HB := Lib.hid (fun (u : World) (hu : Below w.heap.size w u) => combined7_any g p q true An cn Ae ce Pn pn Pe pe Qn qn Qe qe u (hg.up hu) (hp.up hu) (hq.up hu))
  have HS0 := Lib.hid hS0
  rw [← comb_meet]
  clear hg hp hq hS0
  generalize twoE g p q = E at *
  generalize combR true g p q = R at *
  go_enter Tryd.func23, Tryd.ntmps23
  obtain ⟨c0, c1⟩ := HS0.out.cell (i := 0) rfl
  obtain ⟨c2, c3⟩ := HS0.out.cell (i := 1) rfl
  obtain ⟨c4, c5⟩ := HS0.out.cell (i := 2) rfl
  simp only [Nat.add_zero] at c0 c1
  go_wp2_with fail
  refine (HB.out _ HS0.out.1).mono ?_
  rintro e w1 ⟨⟨Xn, xn, Xe, xe, rfl, r1, r2, r3, r4⟩, hb1⟩
  have HS1 := Lib.hid (HS0.out.up hb1)
  have HR1 := Lib.hid r1
  have HR2 := Lib.hid r2
  have HR3 := Lib.hid (And.intro r3 r4)
  clear hb1 HS0 HB c0 c1 c2 c3 c4 c5 r1 r2 r3 r4
  obtain ⟨c6, c7⟩ := HS1.out.cell (i := 3) rfl
  have fr0 := HS1.out.free (i := 3) rfl 0
  have fr1 := HS1.out.free (i := 3) rfl 1
  go_wp2_with fail
  have HSZ := Lib.hid (HS1.out.set (i := 3) rfl (.slice Xn R.ns.length xn) (.slice Xe R.es.length xe))
  obtain ⟨r0, r1⟩ := HSZ.out.cell (i := 3) rfl
  refine bodyPost_ret (v := .tuple #[gval Xn R.ns.length xn Xe R.es.length xe, .int .i64 (E : Int)]) (by simp [results, Tryd.results23, go_sem, r0, r1]) rfl ?_
  have hbx : BX (w.heap.size + 3) (.slice none 0 0) (.slice none 0 0) 27 w1 := HS1.out.2 3 _ rfl
  exact ⟨⟨Xn, xn, Xe, xe, rfl, ints_set' HR1.out hbx _ _, ints_set' HR2.out hbx _ _, HR3.out.1, HR3.out.2⟩, HSZ.out.1⟩

set_option maxRecDepth 100000 in
set_option maxHeartbeats 4000000 in
theorem image7_any (a : Gr) (b : Gr) (m : Mo) (An : Option Addr) (cn : Nat) (Ae : Option Addr) (ce : Nat) (Bn : Option Addr) (dn : Nat) (Be : Option Addr) (de : Nat) (Mn : Option Addr) (mn : Nat) (Me : Option Addr) (me : Nat) (w : World) (ha : GrAt w An cn Ae ce a) (hb : GrAt w Bn dn Be de b) (hm : PtAt w Mn Me m) :
    GivesM 27 #[gval An a.ns.length cn Ae a.es.length ce, gval Bn b.ns.length dn Be b.es.length de, gval Mn m.ns.length mn Me m.es.length me] (morE a b m) (imR a b m) w := by
  have hS0 : SR w _ ((((w.alloc (.cells #[.slice An a.ns.length cn, .slice Ae a.es.length ce] 25)).alloc (.cells #[.slice Bn b.ns.length dn, .slice Be b.es.length de] 25)).alloc (.cells #[.slice Mn m.ns.length mn, .slice Me m.es.length me] 42)).alloc (.cells #[.slice none 0 0, .slice none 0 0] 27)) := SR.push (SR.push (SR.push (SR.push (SR.nil w) rfl _ _ _) (by simp) _ _ _) (by simp) _ _ _) (by simp) _ _ _
  have HS0 := Lib.hid hS0
  have HB7 := Lib.hid (fun (u : World) (hu : Below w.heap.size w u) => validR6_any a b m An cn Ae ce Bn dn Be de Mn mn Me me u (ha.up hu) (hb.up hu) (Reads.up hm.ns hu) (Reads.up hm.es hu) hm.ln hm.le)
  have HC1 := Lib.hid (fun (u : World) (hu : Below w.heap.size w u) => fun (hl : b.ns.length ≤ 1000) => merged_any b.ns.length m.ns m.ns false Mn Mn mn mn u hl hm.ln hm.ln (Reads.up hm.ns hu) (Reads.up hm.ns hu))
  have HC2 := Lib.hid (fun (u : World) (hu : Below w.heap.size w u) => fun (hl : b.es.length ≤ 1000) => merged_any b.es.length m.es m.es false Me Me me me u hl hm.le hm.le (Reads.up hm.es hu) (Reads.up hm.es hu))
  have HZ : Hid (morE a b m = 0 → b.ns.length ≤ 1000 ∧ b.es.length ≤ 1000) := Lib.hid fun h => by obtain ⟨l1, l2, _⟩ := valid_zero (mor_zero.1 h).vb; exact ⟨by omega, by omega⟩
  have HIM : Hid (imgP b m = ⟨sel (fun i => mrg false (inB m.ns i) (inB m.ns i)) b.ns.length, sel (fun i => mrg false (inB m.es i) (inB m.es i)) b.es.length⟩) := Lib.hid (by unfold imgP; simp only [mrg_or, Bool.or_self])
  have HI : Hid (imR a b m = if morE a b m = 0 then imgP b m else noM) := Lib.hid rfl
  clear hS0 ha hb hm
  generalize imR a b m = R at *
  generalize morE a b m = E at *
  refine givesM ?_
  go_enter Tryd.func27, Tryd.ntmps27
  obtain ⟨c0x, c0y⟩ := HS0.out.cell (i := 0) rfl
  obtain ⟨c1x, c1y⟩ := HS0.out.cell (i := 1) rfl
  obtain ⟨c2x, c2y⟩ := HS0.out.cell (i := 2) rfl
  obtain ⟨c3x, c3y⟩ := HS0.out.cell (i := 3) rfl
  simp only [Nat.add_zero] at c0x c0y
  have fr0 := HS0.out.free (i := 3) rfl 0
  have fr1 := HS0.out.free (i := 3) rfl 1
  go_wp2_with fail
  refine (HB7.out _ HS0.out.1).mono ?_
  rintro e w1 ⟨rfl, hb⟩
  have HS1 := Lib.hid (HS0.out.up hb)
  clear hb HS0 HB7 c0x c0y c1x c1y c2x c2y c3x c3y fr0 fr1
  obtain ⟨c0x, c0y⟩ := HS1.out.cell (i := 0) rfl
  obtain ⟨c1x, c1y⟩ := HS1.out.cell (i := 1) rfl
  obtain ⟨c2x, c2y⟩ := HS1.out.cell (i := 2) rfl
  obtain ⟨c3x, c3y⟩ := HS1.out.cell (i := 3) rfl
  simp only [Nat.add_zero] at c0x c0y
  have fr0 := HS1.out.free (i := 3) rfl 0
  have fr1 := HS1.out.free (i := 3) rfl 1
  by_cases h1 : E = 0
  case neg =>
    have HEE : Hid (E = E) := Lib.hid rfl
    have HR := Lib.hid (show R = noM by rw [HI.out, if_neg (by rw [HEE.out]; exact h1)])
    have t1 : ((E : Int) != 0) = true := by simp; omega
    clear h1
    go_wp2_with fail
    have hS2 := HS1.out.set (i := 3) rfl (.slice none 0 0) (.slice none 0 0)
    obtain ⟨r0, r1⟩ := hS2.cell (i := 3) rfl
    refine bodyPost_ret (v := .tuple #[gval none 0 0 none 0 0, .int .i64 ((E : Nat))]) (by simp [results, Tryd.results27, go_sem, r0, r1]) rfl ?_
    exact ⟨⟨_, rfl, by rw [HR.out]; exact isM_nil _⟩, hS2.1⟩
  have HEE := Lib.hid (show E = 0 from h1)
  have HR := Lib.hid (show R = ⟨sel (fun i => mrg false (inB m.ns i) (inB m.ns i)) b.ns.length, sel (fun i => mrg false (inB m.es i) (inB m.es i)) b.es.length⟩ by rw [HI.out, if_pos HEE.out]; exact HIM.out)
  have t1 : ((E : Int) != 0) = false := by simp; omega
  obtain ⟨l1, l2⟩ := HZ.out HEE.out
  replace HC1 := Lib.hid (fun u hu => HC1.out u hu l1)
  replace HC2 := Lib.hid (fun u hu => HC2.out u hu l2)
  clear l1 l2 HZ HIM
  generalize sel (fun i => mrg false (inB m.ns i) (inB m.ns i)) b.ns.length = L1 at *
  generalize sel (fun i => mrg false (inB m.es i) (inB m.es i)) b.es.length = L2 at *
  clear h1 HI
  go_wp2_with fail
  have HSd : Hid (SR w _ w1.drew) := Lib.hid (HS1.out.up (below_d _))
  have HSA : Hid ((fun u : World => u.cell? ⟨w.heap.size, 0, none⟩ = some (.slice An a.ns.length cn) ∧ u.cell? ⟨w.heap.size, 1, none⟩ = some (.slice Ae a.es.length ce) ∧ u.cell? ⟨w.heap.size + 1, 0, none⟩ = some (.slice Bn b.ns.length dn) ∧ u.cell? ⟨w.heap.size + 1, 1, none⟩ = some (.slice Be b.es.length de) ∧ u.cell? ⟨w.heap.size + 2, 0, none⟩ = some (.slice Mn m.ns.length mn) ∧ u.cell? ⟨w.heap.size + 2, 1, none⟩ = some (.slice Me m.es.length me)) w1.drew) := Lib.hid ⟨c0x, c0y, c1x, c1y, c2x, c2y⟩
  have HUP : Hid (∀ u u', (fun u : World => u.cell? ⟨w.heap.size, 0, none⟩ = some (.slice An a.ns.length cn) ∧ u.cell? ⟨w.heap.size, 1, none⟩ = some (.slice Ae a.es.length ce) ∧ u.cell? ⟨w.heap.size + 1, 0, none⟩ = some (.slice Bn b.ns.length dn) ∧ u.cell? ⟨w.heap.size + 1, 1, none⟩ = some (.slice Be b.es.length de) ∧ u.cell? ⟨w.heap.size + 2, 0, none⟩ = some (.slice Mn m.ns.length mn) ∧ u.cell? ⟨w.heap.size + 2, 1, none⟩ = some (.slice Me m.es.length me)) u → Below u.heap.size u u' → (fun u : World => u.cell? ⟨w.heap.size, 0, none⟩ = some (.slice An a.ns.length cn) ∧ u.cell? ⟨w.heap.size, 1, none⟩ = some (.slice Ae a.es.length ce) ∧ u.cell? ⟨w.heap.size + 1, 0, none⟩ = some (.slice Bn b.ns.length dn) ∧ u.cell? ⟨w.heap.size + 1, 1, none⟩ = some (.slice Be b.es.length de) ∧ u.cell? ⟨w.heap.size + 2, 0, none⟩ = some (.slice Mn m.ns.length mn) ∧ u.cell? ⟨w.heap.size + 2, 1, none⟩ = some (.slice Me m.es.length me)) u') := Lib.hid fun u u' h hb => ⟨cell_up hb h.1, cell_up hb h.2.1, cell_up hb h.2.2.1, cell_up hb h.2.2.2.1, cell_up hb h.2.2.2.2.1, cell_up hb h.2.2.2.2.2⟩
  have HWS : Hid (w.heap.size + 3 < w1.drew.heap.size) := Lib.hid (heap_lt (HS1.out.2 3 _ rfl))
  have HWL : Hid (w.heap.size ≤ w1.drew.heap.size) := Lib.hid HS1.out.1.size
  clear t1 c0x c0y c1x c1y c2x c2y c3x c3y fr0 fr1 HS1
  refine wp_region_noPanic ?_
  refine wp_region_held_drew (S := (fun u : World => u.cell? ⟨w.heap.size, 0, none⟩ = some (.slice An a.ns.length cn) ∧ u.cell? ⟨w.heap.size, 1, none⟩ = some (.slice Ae a.es.length ce) ∧ u.cell? ⟨w.heap.size + 1, 0, none⟩ = some (.slice Bn b.ns.length dn) ∧ u.cell? ⟨w.heap.size + 1, 1, none⟩ = some (.slice Be b.es.length de) ∧ u.cell? ⟨w.heap.size + 2, 0, none⟩ = some (.slice Mn m.ns.length mn) ∧ u.cell? ⟨w.heap.size + 2, 1, none⟩ = some (.slice Me m.es.length me))) (by kernel_rfl) (HSA.out) (fun hHeld => ?_)
  generalize w1.drew = wd at *
  refine wpAnyH_take (i := 0) (v := ?_) (oper_at (r := _) rfl) (by kernel_rfl) (by kernel_rfl) (by kernel_rfl) (fun _ _ _ h => h) (Or.inl ⟨by rfl, ?_⟩) (by assumption) ?_
  rotate_left
  · intro w hSw; try dsimp only at hSw
    go_simp
    try with_reducible rfl
  try simp only [Act.put, List.setIfInBounds_toArray, List.set_cons_zero, List.set_cons_succ]
  refine wpAnyH_take (i := 1) (v := ?_) (oper_at (r := _) rfl) (by kernel_rfl) (by kernel_rfl) (by kernel_rfl) (fun _ _ _ h => h) (Or.inl ⟨by rfl, ?_⟩) (by assumption) ?_
  rotate_left
  · intro w hSw; try dsimp only at hSw
    go_simp
    try with_reducible rfl
  try simp only [Act.put, List.setIfInBounds_toArray, List.set_cons_zero, List.set_cons_succ]
  refine wpAnyH_take (i := 2) (v := ?_) (oper_at (r := _) rfl) (by kernel_rfl) (by kernel_rfl) (by kernel_rfl) (fun _ _ _ h => h) (Or.inl ⟨by rfl, ?_⟩) (by assumption) ?_
  rotate_left
  · intro w hSw; try dsimp only at hSw
    go_simp
    try with_reducible rfl
  try simp only [Act.put, List.setIfInBounds_toArray, List.set_cons_zero, List.set_cons_succ]
  refine wpAnyH_take (i := 3) (v := ?_) (oper_at (r := _) rfl) (by kernel_rfl) (by kernel_rfl) (by kernel_rfl) (fun _ _ _ h => h) (Or.inl ⟨by rfl, ?_⟩) (by assumption) ?_
  rotate_left
  · intro w hSw; try dsimp only at hSw
    go_simp
    try with_reducible rfl
  try simp only [Act.put, List.setIfInBounds_toArray, List.set_cons_zero, List.set_cons_succ]
  refine wpAnyH_take (i := 4) (v := ?_) (oper_at (r := _) rfl) (by kernel_rfl) (by kernel_rfl) (by kernel_rfl) (fun _ _ _ h => h) (Or.inl ⟨by rfl, ?_⟩) (by assumption) ?_
  rotate_left
  · intro w hSw; try dsimp only at hSw
    go_simp
    try with_reducible rfl
  try simp only [Act.put, List.setIfInBounds_toArray, List.set_cons_zero, List.set_cons_succ]
  refine wpAnyH_take (i := 5) (v := ?_) (oper_at (r := _) rfl) (by kernel_rfl) (by kernel_rfl) (by kernel_rfl) (fun _ _ _ h => h) (Or.inl ⟨by rfl, ?_⟩) (by assumption) ?_
  rotate_left
  · intro w hSw; try dsimp only at hSw
    go_simp
    try with_reducible rfl
  try simp only [Act.put, List.setIfInBounds_toArray, List.set_cons_zero, List.set_cons_succ]
  refine wpAnyH_take (i := 6) (v := ?_) (oper_at (r := _) rfl) (by kernel_rfl) (by kernel_rfl) (by kernel_rfl) (fun _ _ _ h => h) (Or.inl ⟨by rfl, ?_⟩) (by assumption) ?_
  rotate_left
  · intro w hSw; try dsimp only at hSw
    go_simp
    try with_reducible rfl
  try simp only [Act.put, List.setIfInBounds_toArray, List.set_cons_zero, List.set_cons_succ]
  refine wpAnyH_take (i := 8) (v := ?_) (oper_at (r := _) rfl) (by kernel_rfl) (by kernel_rfl) (by kernel_rfl) (fun _ _ _ h => h) (Or.inl ⟨by rfl, ?_⟩) (by assumption) ?_
  rotate_left
  · intro w hSw; try dsimp only at hSw
    go_simp
    try with_reducible rfl
  try simp only [Act.put, List.setIfInBounds_toArray, List.set_cons_zero, List.set_cons_succ]
  refine wpAnyH_take (i := 9) (v := ?_) (oper_at (r := _) rfl) (by kernel_rfl) (by kernel_rfl) (by kernel_rfl) (fun _ _ _ h => h) (Or.inl ⟨by rfl, ?_⟩) (by assumption) ?_
  rotate_left
  · intro w hSw; try dsimp only at hSw
    go_simp
    try with_reducible rfl
  try simp only [Act.put, List.setIfInBounds_toArray, List.set_cons_zero, List.set_cons_succ]
  refine wpAnyH_take (i := 10) (v := ?_) (oper_at (r := _) rfl) (by kernel_rfl) (by kernel_rfl) (by kernel_rfl) (fun _ _ _ h => h) (Or.inl ⟨by rfl, ?_⟩) (by assumption) ?_
  rotate_left
  · intro w hSw; try dsimp only at hSw
    go_simp
    try with_reducible rfl
  try simp only [Act.put, List.setIfInBounds_toArray, List.set_cons_zero, List.set_cons_succ]
  refine wpAnyH_take (i := 11) (v := ?_) (oper_at (r := _) rfl) (by kernel_rfl) (by kernel_rfl) (by kernel_rfl) (fun _ _ _ h => h) (Or.inl ⟨by rfl, ?_⟩) (by assumption) ?_
  rotate_left
  · intro w hSw; try dsimp only at hSw
    go_simp
    try with_reducible rfl
  try simp only [Act.put, List.setIfInBounds_toArray, List.set_cons_zero, List.set_cons_succ]
  refine wpAnyH_take (i := 12) (v := ?_) (oper_at (r := _) rfl) (by kernel_rfl) (by kernel_rfl) (by kernel_rfl) (fun _ _ _ h => h) (Or.inl ⟨by rfl, ?_⟩) (by assumption) ?_
  rotate_left
  · intro w hSw; try dsimp only at hSw
    go_simp
    try with_reducible rfl
  try simp only [Act.put, List.setIfInBounds_toArray, List.set_cons_zero, List.set_cons_succ]
  refine wpAnyH_take (i := 13) (v := ?_) (oper_at (r := _) rfl) (by kernel_rfl) (by kernel_rfl) (by kernel_rfl) (fun _ _ _ h => h) (Or.inl ⟨by rfl, ?_⟩) (by assumption) ?_
  rotate_left
  · intro w hSw; try dsimp only at hSw
    go_simp
    try with_reducible rfl
  try simp only [Act.put, List.setIfInBounds_toArray, List.set_cons_zero, List.set_cons_succ]
  refine wpAnyH_take (i := 14) (v := ?_) (oper_at (r := _) rfl) (by kernel_rfl) (by kernel_rfl) (by kernel_rfl) (fun _ _ _ h => h) (Or.inl ⟨by rfl, ?_⟩) (by assumption) ?_
  rotate_left
  · intro w hSw; try dsimp only at hSw
    go_simp
    try with_reducible rfl
  try simp only [Act.put, List.setIfInBounds_toArray, List.set_cons_zero, List.set_cons_succ]
  refine wpAnyH_ready (rs := [7]) (by kernel_rfl) (by simp) ?_
  refine AllReadyH.cons (oper_at (r := _) rfl) (fun K hK => ?_) AllReadyH.nil
  go_simp
  refine (HC1.out _ HSd.out.1).mono ?_
  rintro e x2 ⟨v2, rfl, ho2, hb2⟩
  have HT2 := Lib.hid (HUP.out _ _ HSA.out hb2)
  have HLE := Lib.hid hb2.size
  have HSR2 := Lib.hid (HSd.out.up hb2)
  have HO2 := Lib.hid ho2
  obtain ⟨A2, d2, rfl⟩ := OwnE.slice ho2
  clear ho2 hb2
  go_wp2_with fail
  refine hK.out _ _ (HT2.out) (fun _ => ?_)
  clear hK K
  try simp only [Act.put, List.setIfInBounds_toArray, List.set_cons_zero, List.set_cons_succ]
  refine wpAnyH_ready (rs := [15]) (by kernel_rfl) (by simp) ?_
  refine AllReadyH.cons (oper_at (r := _) rfl) (fun K hK => ?_) AllReadyH.nil
  go_simp
  refine (HC2.out _ HSR2.out.1).mono ?_
  rintro e x3 ⟨v3, rfl, ho3, hb3⟩
  have HT3 := Lib.hid (HUP.out _ _ HT2.out hb3)
  have HSR3 := Lib.hid (HSR2.out.up hb3)
  have HOO := Lib.hid (OwnE.below HO2.out hb3 (Nat.le_refl _))
  have HO3 := Lib.hid ho3
  obtain ⟨A3, d3, rfl⟩ := OwnE.slice ho3
  clear ho3 hb3 HO2
  go_wp2_with fail
  refine hK.out _ _ (HT3.out) (fun _ => ?_)
  clear hK K
  try simp only [Act.put, List.setIfInBounds_toArray, List.set_cons_zero, List.set_cons_succ]
  refine wpAnyH_take (i := 16) (v := ?_) (oper_at (r := _) rfl) (by kernel_rfl) (by kernel_rfl) (by kernel_rfl) (fun _ _ _ h => h) (Or.inl ⟨by rfl, ?_⟩) (by assumption) ?_
  rotate_left
  · intro w hSw; try dsimp only at hSw
    go_simp
    try with_reducible rfl
  try simp only [Act.put, List.setIfInBounds_toArray, List.set_cons_zero, List.set_cons_succ]
  obtain ⟨c3x, c3y⟩ := HSR3.out.cell (i := 3) rfl
  have fr0 := HSR3.out.free (i := 3) rfl 0
  have fr1 := HSR3.out.free (i := 3) rfl 1
  have HSZ := Lib.hid (HSR3.out.set (i := 3) rfl (.slice A2 L1.length d2) (.slice A3 L2.length d3))
  obtain ⟨z0x, z0y⟩ := HSZ.out.cell (i := 0) rfl
  obtain ⟨z1x, z1y⟩ := HSZ.out.cell (i := 1) rfl
  obtain ⟨z2x, z2y⟩ := HSZ.out.cell (i := 2) rfl
  simp only [Nat.add_zero] at z0x z0y
  have HS4 : Hid ((fun u : World => u.cell? ⟨w.heap.size, 0, none⟩ = some (.slice An a.ns.length cn) ∧ u.cell? ⟨w.heap.size, 1, none⟩ = some (.slice Ae a.es.length ce) ∧ u.cell? ⟨w.heap.size + 1, 0, none⟩ = some (.slice Bn b.ns.length dn) ∧ u.cell? ⟨w.heap.size + 1, 1, none⟩ = some (.slice Be b.es.length de) ∧ u.cell? ⟨w.heap.size + 2, 0, none⟩ = some (.slice Mn m.ns.length mn) ∧ u.cell? ⟨w.heap.size + 2, 1, none⟩ = some (.slice Me m.es.length me)) _) := Lib.hid ⟨z0x, z0y, z1x, z1y, z2x, z2y⟩
  clear z0x z0y z1x z1y z2x z2y
  refine wpAnyH_ready (rs := [17]) (by kernel_rfl) (by simp) ?_
  refine AllReadyH.cons (oper_at (r := _) rfl) (fun K hK => ?_) AllReadyH.nil
  go_simp
  refine hK.out _ _ (HS4.out) (fun _ => ?_)
  clear hK K
  try simp only [Act.put, List.setIfInBounds_toArray, List.set_cons_zero, List.set_cons_succ]
  refine wpAnyH_take (i := 18) (v := ?_) (oper_at (r := _) rfl) (by kernel_rfl) (by kernel_rfl) (by kernel_rfl) (fun _ _ _ h => h) (Or.inl ⟨by rfl, ?_⟩) (by assumption) ?_
  rotate_left
  · intro w hSw; try dsimp only at hSw
    go_simp
    try with_reducible rfl
  try simp only [Act.put, List.setIfInBounds_toArray, List.set_cons_zero, List.set_cons_succ]
  refine wpAnyH_done (by kernel_rfl) ?_ _
  refine NoPanic.normal ?_
  go_wp2_with fail
  obtain ⟨r0, r1⟩ := HSZ.out.cell (i := 3) rfl
  have hlt := HWS.out
  have hle := HLE.out
  refine bodyPost_ret (v := .tuple #[.agg #[.slice A2 L1.length d2, .slice A3 L2.length d3], .int .i64 0]) (by simp [results, Tryd.results27, go_sem, r0, r1]) rfl ?_
  have s1 : OwnI ((x3.setCell ⟨w.heap.size + 3, 0, none⟩ (.slice A2 L1.length d2)).setCell ⟨w.heap.size + 3, 1, none⟩ (.slice A3 L2.length d3)) _ _ _ := ownsRow_setCell_below (ownsRow_setCell_below HOO.out (by show w.heap.size + 3 < wd.heap.size; exact hlt) _) (by show w.heap.size + 3 < wd.heap.size; exact hlt) _
  have s2 : OwnI ((x3.setCell ⟨w.heap.size + 3, 0, none⟩ (.slice A2 L1.length d2)).setCell ⟨w.heap.size + 3, 1, none⟩ (.slice A3 L2.length d3)) _ _ _ := ownsRow_setCell_below (ownsRow_setCell_below HO3.out (by show w.heap.size + 3 < x2.heap.size; exact Nat.lt_of_lt_of_le hlt hle) _) (by show w.heap.size + 3 < x2.heap.size; exact Nat.lt_of_lt_of_le hlt hle) _
  exact ⟨⟨.agg #[.slice A2 L1.length d2, .slice A3 L2.length d3], by rw [HEE.out]; rfl, by rw [HR.out]; exact isM_of (g := ⟨L1, L2⟩) (isI_own s1) (isI_own s2)⟩, HSZ.out.1⟩
set_option maxRecDepth 100000 in
set_option maxHeartbeats 4000000 in
theorem preimage7_any (a : Gr) (b : Gr) (m : Mo) (p : Mo) (An : Option Addr) (cn : Nat) (Ae : Option Addr) (ce : Nat) (Bn : Option Addr) (dn : Nat) (Be : Option Addr) (de : Nat) (Mn : Option Addr) (mn : Nat) (Me : Option Addr) (me : Nat) (Pn : Option Addr) (pn : Nat) (Pe : Option Addr) (pe : Nat) (w : World) (ha : GrAt w An cn Ae ce a) (hb : GrAt w Bn dn Be de b) (hm : PtAt w Mn Me m) (hp : PtAt w Pn Pe p) :
    GivesM 29 #[gval An a.ns.length cn Ae a.es.length ce, gval Bn b.ns.length dn Be b.es.length de, gval Mn m.ns.length mn Me m.es.length me, gval Pn p.ns.length pn Pe p.es.length pe] (preE a b m p) (preR a b m p) w := by
  have hS0 : SR w _ (((((w.alloc (.cells #[.slice An a.ns.length cn, .slice Ae a.es.length ce] 25)).alloc (.cells #[.slice Bn b.ns.length dn, .slice Be b.es.length de] 25)).alloc (.cells #[.slice Mn m.ns.length mn, .slice Me m.es.length me] 42)).alloc (.cells #[.slice Pn p.ns.length pn, .slice Pe p.es.length pe] 27)).alloc (.cells #[.slice none 0 0, .slice none 0 0] 27)) := SR.push (SR.push (SR.push (SR.push (SR.push (SR.nil w) rfl _ _ _) (by simp) _ _ _) (by simp) _ _ _) (by simp) _ _ _) (by simp) _ _ _
  have HS0 := Lib.hid hS0
  have HB7 := Lib.hid (fun (u : World) (hu : Below w.heap.size w u) => validR6_any a b m An cn Ae ce Bn dn Be de Mn mn Me me u (ha.up hu) (hb.up hu) (Reads.up hm.ns hu) (Reads.up hm.es hu) hm.ln hm.le)
  have HB8 := Lib.hid (fun (u : World) (hu : Below w.heap.size w u) => right7_any b p Bn dn Be de Pn pn Pe pe u (hb.up hu) (hp.up hu))
  have HC1 := Lib.hid (fun (u : World) (hu : Below w.heap.size w u) => into7_any m.ns p.ns Mn Pn mn pn u hm.ln hp.ln (Reads.up hm.ns hu) (Reads.up hp.ns hu))
  have HC2 := Lib.hid (fun (u : World) (hu : Below w.heap.size w u) => into7_any m.es p.es Me Pe me pe u hm.le hp.le (Reads.up hm.es hu) (Reads.up hp.es hu))
  have HE : Hid (preE a b m p = if morE a b m ≠ 0 then morE a b m else rightE b p) := Lib.hid rfl
  have HI : Hid (preR a b m p = if preE a b m p = 0 then preP m p else noM) := Lib.hid rfl
  clear hS0 ha hb hm hp
  generalize preR a b m p = R at *
  generalize preE a b m p = E at *
  generalize morE a b m = e1 at *
  generalize rightE b p = e2 at *
  refine givesM ?_
  go_enter Tryd.func29, Tryd.ntmps29
  obtain ⟨c0x, c0y⟩ := HS0.out.cell (i := 0) rfl
  obtain ⟨c1x, c1y⟩ := HS0.out.cell (i := 1) rfl
  obtain ⟨c2x, c2y⟩ := HS0.out.cell (i := 2) rfl
  obtain ⟨c3x, c3y⟩ := HS0.out.cell (i := 3) rfl
  obtain ⟨c4x, c4y⟩ := HS0.out.cell (i := 4) rfl
  simp only [Nat.add_zero] at c0x c0y
  have fr0 := HS0.out.free (i := 4) rfl 0
  have fr1 := HS0.out.free (i := 4) rfl 1
  go_wp2_with fail
  refine (HB7.out _ HS0.out.1).mono ?_
  rintro e w1 ⟨rfl, hb⟩
  have HS1 := Lib.hid (HS0.out.up hb)
  clear hb HS0 HB7 c0x c0y c1x c1y c2x c2y c3x c3y c4x c4y fr0 fr1
  obtain ⟨c0x, c0y⟩ := HS1.out.cell (i := 0) rfl
  obtain ⟨c1x, c1y⟩ := HS1.out.cell (i := 1) rfl
  obtain ⟨c2x, c2y⟩ := HS1.out.cell (i := 2) rfl
  obtain ⟨c3x, c3y⟩ := HS1.out.cell (i := 3) rfl
  obtain ⟨c4x, c4y⟩ := HS1.out.cell (i := 4) rfl
  simp only [Nat.add_zero] at c0x c0y
  have fr0 := HS1.out.free (i := 4) rfl 0
  have fr1 := HS1.out.free (i := 4) rfl 1
  by_cases h1 : e1 = 0
  case neg =>
    have HEE := Lib.hid (show E = e1 by rw [HE.out, if_pos h1])
    have HR := Lib.hid (show R = noM by rw [HI.out, if_neg (by rw [HEE.out]; exact h1)])
    have t1 : ((e1 : Int) != 0) = true := by simp; omega
    clear h1
    go_wp2_with fail
    have hS2 := HS1.out.set (i := 4) rfl (.slice none 0 0) (.slice none 0 0)
    obtain ⟨r0, r1⟩ := hS2.cell (i := 4) rfl
    refine bodyPost_ret (v := .tuple #[gval none 0 0 none 0 0, .int .i64 ((e1 : Nat))]) (by simp [results, Tryd.results29, go_sem, r0, r1]) rfl ?_
    exact ⟨⟨_, by rw [HEE.out], by rw [HR.out]; exact isM_nil _⟩, hS2.1⟩
  have HE1 := Lib.hid h1
  have t1 : ((e1 : Int) != 0) = false := by simp; omega
  obtain ⟨HE2⟩ : Nonempty (Hid (E = e2)) := ⟨Lib.hid (by rw [HE.out, if_neg (by omega)])⟩
  clear HE h1
  have HE := HE2
  go_wp2_with fail
  refine (HB8.out _ HS1.out.1).mono ?_
  rintro e w2 ⟨rfl, hb⟩
  have HS2 := Lib.hid (HS1.out.up hb)
  clear hb HS1 HB8 c0x c0y c1x c1y c2x c2y c3x c3y c4x c4y fr0 fr1 t1
  obtain ⟨c0x, c0y⟩ := HS2.out.cell (i := 0) rfl
  obtain ⟨c1x, c1y⟩ := HS2.out.cell (i := 1) rfl
  obtain ⟨c2x, c2y⟩ := HS2.out.cell (i := 2) rfl
  obtain ⟨c3x, c3y⟩ := HS2.out.cell (i := 3) rfl
  obtain ⟨c4x, c4y⟩ := HS2.out.cell (i := 4) rfl
  simp only [Nat.add_zero] at c0x c0y
  have fr0 := HS2.out.free (i := 4) rfl 0
  have fr1 := HS2.out.free (i := 4) rfl 1
  by_cases h1 : e2 = 0
  case neg =>
    have HEE := Lib.hid (show E = e2 by rw [HE.out])
    have HR := Lib.hid (show R = noM by rw [HI.out, if_neg (by rw [HEE.out]; exact h1)])
    have t1 : ((e2 : Int) != 0) = true := by simp; omega
    clear h1
    go_wp2_with fail
    have hS2 := HS2.out.set (i := 4) rfl (.slice none 0 0) (.slice none 0 0)
    obtain ⟨r0, r1⟩ := hS2.cell (i := 4) rfl
    refine bodyPost_ret (v := .tuple #[gval none 0 0 none 0 0, .int .i64 ((e2 : Nat))]) (by simp [results, Tryd.results29, go_sem, r0, r1]) rfl ?_
    exact ⟨⟨_, by rw [HEE.out], by rw [HR.out]; exact isM_nil _⟩, hS2.1⟩
  have HEE := Lib.hid (show E = 0 by rw [HE.out]; exact h1)
  have HR := Lib.hid (show R = ⟨intoL m.ns p.ns, intoL m.es p.es⟩ by rw [HI.out, if_pos HEE.out]; rfl)
  have t1 : ((e2 : Int) != 0) = false := by simp; omega
  generalize intoL m.ns p.ns = L1 at *
  generalize intoL m.es p.es = L2 at *
  clear h1 HI HE
  go_wp2_with fail
  have HSd : Hid (SR w _ w2.drew) := Lib.hid (HS2.out.up (below_d _))
  have HSA : Hid ((fun u : World => u.cell? ⟨w.heap.size, 0, none⟩ = some (.slice An a.ns.length cn) ∧ u.cell? ⟨w.heap.size, 1, none⟩ = some (.slice Ae a.es.length ce) ∧ u.cell? ⟨w.heap.size + 1, 0, none⟩ = some (.slice Bn b.ns.length dn) ∧ u.cell? ⟨w.heap.size + 1, 1, none⟩ = some (.slice Be b.es.length de) ∧ u.cell? ⟨w.heap.size + 2, 0, none⟩ = some (.slice Mn m.ns.length mn) ∧ u.cell? ⟨w.heap.size + 2, 1, none⟩ = some (.slice Me m.es.length me) ∧ u.cell? ⟨w.heap.size + 3, 0, none⟩ = some (.slice Pn p.ns.length pn) ∧ u.cell? ⟨w.heap.size + 3, 1, none⟩ = some (.slice Pe p.es.length pe)) w2.drew) := Lib.hid ⟨c0x, c0y, c1x, c1y, c2x, c2y, c3x, c3y⟩
  have HUP : Hid (∀ u u', (fun u : World => u.cell? ⟨w.heap.size, 0, none⟩ = some (.slice An a.ns.length cn) ∧ u.cell? ⟨w.heap.size, 1, none⟩ = some (.slice Ae a.es.length ce) ∧ u.cell? ⟨w.heap.size + 1, 0, none⟩ = some (.slice Bn b.ns.length dn) ∧ u.cell? ⟨w.heap.size + 1, 1, none⟩ = some (.slice Be b.es.length de) ∧ u.cell? ⟨w.heap.size + 2, 0, none⟩ = some (.slice Mn m.ns.length mn) ∧ u.cell? ⟨w.heap.size + 2, 1, none⟩ = some (.slice Me m.es.length me) ∧ u.cell? ⟨w.heap.size + 3, 0, none⟩ = some (.slice Pn p.ns.length pn) ∧ u.cell? ⟨w.heap.size + 3, 1, none⟩ = some (.slice Pe p.es.length pe)) u → Below u.heap.size u u' → (fun u : World => u.cell? ⟨w.heap.size, 0, none⟩ = some (.slice An a.ns.length cn) ∧ u.cell? ⟨w.heap.size, 1, none⟩ = some (.slice Ae a.es.length ce) ∧ u.cell? ⟨w.heap.size + 1, 0, none⟩ = some (.slice Bn b.ns.length dn) ∧ u.cell? ⟨w.heap.size + 1, 1, none⟩ = some (.slice Be b.es.length de) ∧ u.cell? ⟨w.heap.size + 2, 0, none⟩ = some (.slice Mn m.ns.length mn) ∧ u.cell? ⟨w.heap.size + 2, 1, none⟩ = some (.slice Me m.es.length me) ∧ u.cell? ⟨w.heap.size + 3, 0, none⟩ = some (.slice Pn p.ns.length pn) ∧ u.cell? ⟨w.heap.size + 3, 1, none⟩ = some (.slice Pe p.es.length pe)) u') := Lib.hid fun u u' h hb => ⟨cell_up hb h.1, cell_up hb h.2.1, cell_up hb h.2.2.1, cell_up hb h.2.2.2.1, cell_up hb h.2.2.2.2.1, cell_up hb h.2.2.2.2.2.1, cell_up hb h.2.2.2.2.2.2.1, cell_up hb h.2.2.2.2.2.2.2⟩
  have HWS : Hid (w.heap.size + 4 < w2.drew.heap.size) := Lib.hid (heap_lt (HS2.out.2 4 _ rfl))
  have HWL : Hid (w.heap.size ≤ w2.drew.heap.size) := Lib.hid HS2.out.1.size
  clear t1 c0x c0y c1x c1y c2x c2y c3x c3y c4x c4y fr0 fr1 HS2
  refine wp_region_noPanic ?_
  refine wp_region_held_drew (S := (fun u : World => u.cell? ⟨w.heap.size, 0, none⟩ = some (.slice An a.ns.length cn) ∧ u.cell? ⟨w.heap.size, 1, none⟩ = some (.slice Ae a.es.length ce) ∧ u.cell? ⟨w.heap.size + 1, 0, none⟩ = some (.slice Bn b.ns.length dn) ∧ u.cell? ⟨w.heap.size + 1, 1, none⟩ = some (.slice Be b.es.length de) ∧ u.cell? ⟨w.heap.size + 2, 0, none⟩ = some (.slice Mn m.ns.length mn) ∧ u.cell? ⟨w.heap.size + 2, 1, none⟩ = some (.slice Me m.es.length me) ∧ u.cell? ⟨w.heap.size + 3, 0, none⟩ = some (.slice Pn p.ns.length pn) ∧ u.cell? ⟨w.heap.size + 3, 1, none⟩ = some (.slice Pe p.es.length pe))) (by kernel_rfl) (HSA.out) (fun hHeld => ?_)
  generalize w2.drew = wd at *
  refine wpAnyH_take (i := 0) (v := ?_) (oper_at (r := _) rfl) (by kernel_rfl) (by kernel_rfl) (by kernel_rfl) (fun _ _ _ h => h) (Or.inl ⟨by rfl, ?_⟩) (by assumption) ?_
  rotate_left
  · intro w hSw; try dsimp only at hSw
    go_simp
    try with_reducible rfl
  try simp only [Act.put, List.setIfInBounds_toArray, List.set_cons_zero, List.set_cons_succ]
  refine wpAnyH_take (i := 1) (v := ?_) (oper_at (r := _) rfl) (by kernel_rfl) (by kernel_rfl) (by kernel_rfl) (fun _ _ _ h => h) (Or.inl ⟨by rfl, ?_⟩) (by assumption) ?_
  rotate_left
  · intro w hSw; try dsimp only at hSw
    go_simp
    try with_reducible rfl
  try simp only [Act.put, List.setIfInBounds_toArray, List.set_cons_zero, List.set_cons_succ]
  refine wpAnyH_take (i := 2) (v := ?_) (oper_at (r := _) rfl) (by kernel_rfl) (by kernel_rfl) (by kernel_rfl) (fun _ _ _ h => h) (Or.inl ⟨by rfl, ?_⟩) (by assumption) ?_
  rotate_left
  · intro w hSw; try dsimp only at hSw
    go_simp
    try with_reducible rfl
  try simp only [Act.put, List.setIfInBounds_toArray, List.set_cons_zero, List.set_cons_succ]
  refine wpAnyH_take (i := 3) (v := ?_) (oper_at (r := _) rfl) (by kernel_rfl) (by kernel_rfl) (by kernel_rfl) (fun _ _ _ h => h) (Or.inl ⟨by rfl, ?_⟩) (by assumption) ?_
  rotate_left
  · intro w hSw; try dsimp only at hSw
    go_simp
    try with_reducible rfl
  try simp only [Act.put, List.setIfInBounds_toArray, List.set_cons_zero, List.set_cons_succ]
  refine wpAnyH_take (i := 5) (v := ?_) (oper_at (r := _) rfl) (by kernel_rfl) (by kernel_rfl) (by kernel_rfl) (fun _ _ _ h => h) (Or.inl ⟨by rfl, ?_⟩) (by assumption) ?_
  rotate_left
  · intro w hSw; try dsimp only at hSw
    go_simp
    try with_reducible rfl
  try simp only [Act.put, List.setIfInBounds_toArray, List.set_cons_zero, List.set_cons_succ]
  refine wpAnyH_take (i := 6) (v := ?_) (oper_at (r := _) rfl) (by kernel_rfl) (by kernel_rfl) (by kernel_rfl) (fun _ _ _ h => h) (Or.inl ⟨by rfl, ?_⟩) (by assumption) ?_
  rotate_left
  · intro w hSw; try dsimp only at hSw
    go_simp
    try with_reducible rfl
  try simp only [Act.put, List.setIfInBounds_toArray, List.set_cons_zero, List.set_cons_succ]
  refine wpAnyH_take (i := 7) (v := ?_) (oper_at (r := _) rfl) (by kernel_rfl) (by kernel_rfl) (by kernel_rfl) (fun _ _ _ h => h) (Or.inl ⟨by rfl, ?_⟩) (by assumption) ?_
  rotate_left
  · intro w hSw; try dsimp only at hSw
    go_simp
    try with_reducible rfl
  try simp only [Act.put, List.setIfInBounds_toArray, List.set_cons_zero, List.set_cons_succ]
  refine wpAnyH_take (i := 8) (v := ?_) (oper_at (r := _) rfl) (by kernel_rfl) (by kernel_rfl) (by kernel_rfl) (fun _ _ _ h => h) (Or.inl ⟨by rfl, ?_⟩) (by assumption) ?_
  rotate_left
  · intro w hSw; try dsimp only at hSw
    go_simp
    try with_reducible rfl
  try simp only [Act.put, List.setIfInBounds_toArray, List.set_cons_zero, List.set_cons_succ]
  refine wpAnyH_ready (rs := [4]) (by kernel_rfl) (by simp) ?_
  refine AllReadyH.cons (oper_at (r := _) rfl) (fun K hK => ?_) AllReadyH.nil
  go_simp
  refine (HC1.out _ HSd.out.1).mono ?_
  rintro e x2 ⟨v2, rfl, ho2, hb2⟩
  have HT2 := Lib.hid (HUP.out _ _ HSA.out hb2)
  have HLE := Lib.hid hb2.size
  have HSR2 := Lib.hid (HSd.out.up hb2)
  have HO2 := Lib.hid ho2
  obtain ⟨A2, d2, rfl⟩ := OwnE.slice ho2
  clear ho2 hb2
  go_wp2_with fail
  refine hK.out _ _ (HT2.out) (fun _ => ?_)
  clear hK K
  try simp only [Act.put, List.setIfInBounds_toArray, List.set_cons_zero, List.set_cons_succ]
  refine wpAnyH_ready (rs := [9]) (by kernel_rfl) (by simp) ?_
  refine AllReadyH.cons (oper_at (r := _) rfl) (fun K hK => ?_) AllReadyH.nil
  go_simp
  refine (HC2.out _ HSR2.out.1).mono ?_
  rintro e x3 ⟨v3, rfl, ho3, hb3⟩
  have HT3 := Lib.hid (HUP.out _ _ HT2.out hb3)
  have HSR3 := Lib.hid (HSR2.out.up hb3)
  have HOO := Lib.hid (OwnE.below HO2.out hb3 (Nat.le_refl _))
  have HO3 := Lib.hid ho3
  obtain ⟨A3, d3, rfl⟩ := OwnE.slice ho3
  clear ho3 hb3 HO2
  go_wp2_with fail
  refine hK.out _ _ (HT3.out) (fun _ => ?_)
  clear hK K
  try simp only [Act.put, List.setIfInBounds_toArray, List.set_cons_zero, List.set_cons_succ]
  refine wpAnyH_take (i := 10) (v := ?_) (oper_at (r := _) rfl) (by kernel_rfl) (by kernel_rfl) (by kernel_rfl) (fun _ _ _ h => h) (Or.inl ⟨by rfl, ?_⟩) (by assumption) ?_
  rotate_left
  · intro w hSw; try dsimp only at hSw
    go_simp
    try with_reducible rfl
  try simp only [Act.put, List.setIfInBounds_toArray, List.set_cons_zero, List.set_cons_succ]
  obtain ⟨c4x, c4y⟩ := HSR3.out.cell (i := 4) rfl
  have fr0 := HSR3.out.free (i := 4) rfl 0
  have fr1 := HSR3.out.free (i := 4) rfl 1
  have HSZ := Lib.hid (HSR3.out.set (i := 4) rfl (.slice A2 L1.length d2) (.slice A3 L2.length d3))
  obtain ⟨z0x, z0y⟩ := HSZ.out.cell (i := 0) rfl
  obtain ⟨z1x, z1y⟩ := HSZ.out.cell (i := 1) rfl
  obtain ⟨z2x, z2y⟩ := HSZ.out.cell (i := 2) rfl
  obtain ⟨z3x, z3y⟩ := HSZ.out.cell (i := 3) rfl
  simp only [Nat.add_zero] at z0x z0y
  have HS4 : Hid ((fun u : World => u.cell? ⟨w.heap.size, 0, none⟩ = some (.slice An a.ns.length cn) ∧ u.cell? ⟨w.heap.size, 1, none⟩ = some (.slice Ae a.es.length ce) ∧ u.cell? ⟨w.heap.size + 1, 0, none⟩ = some (.slice Bn b.ns.length dn) ∧ u.cell? ⟨w.heap.size + 1, 1, none⟩ = some (.slice Be b.es.length de) ∧ u.cell? ⟨w.heap.size + 2, 0, none⟩ = some (.slice Mn m.ns.length mn) ∧ u.cell? ⟨w.heap.size + 2, 1, none⟩ = some (.slice Me m.es.length me) ∧ u.cell? ⟨w.heap.size + 3, 0, none⟩ = some (.slice Pn p.ns.length pn) ∧ u.cell? ⟨w.heap.size + 3, 1, none⟩ = some (.slice Pe p.es.length pe)) _) := Lib.hid ⟨z0x, z0y, z1x, z1y, z2x, z2y, z3x, z3y⟩
  clear z0x z0y z1x z1y z2x z2y z3x z3y
  refine wpAnyH_ready (rs := [11]) (by kernel_rfl) (by simp) ?_
  refine AllReadyH.cons (oper_at (r := _) rfl) (fun K hK => ?_) AllReadyH.nil
  go_simp
  refine hK.out _ _ (HS4.out) (fun _ => ?_)
  clear hK K
  try simp only [Act.put, List.setIfInBounds_toArray, List.set_cons_zero, List.set_cons_succ]
  refine wpAnyH_take (i := 12) (v := ?_) (oper_at (r := _) rfl) (by kernel_rfl) (by kernel_rfl) (by kernel_rfl) (fun _ _ _ h => h) (Or.inl ⟨by rfl, ?_⟩) (by assumption) ?_
  rotate_left
  · intro w hSw; try dsimp only at hSw
    go_simp
    try with_reducible rfl
  try simp only [Act.put, List.setIfInBounds_toArray, List.set_cons_zero, List.set_cons_succ]
  refine wpAnyH_done (by kernel_rfl) ?_ _
  refine NoPanic.normal ?_
  go_wp2_with fail
  obtain ⟨r0, r1⟩ := HSZ.out.cell (i := 4) rfl
  have hlt := HWS.out
  have hle := HLE.out
  refine bodyPost_ret (v := .tuple #[.agg #[.slice A2 L1.length d2, .slice A3 L2.length d3], .int .i64 0]) (by simp [results, Tryd.results29, go_sem, r0, r1]) rfl ?_
  have s1 : OwnI ((x3.setCell ⟨w.heap.size + 4, 0, none⟩ (.slice A2 L1.length d2)).setCell ⟨w.heap.size + 4, 1, none⟩ (.slice A3 L2.length d3)) _ _ _ := ownsRow_setCell_below (ownsRow_setCell_below HOO.out (by show w.heap.size + 4 < wd.heap.size; exact hlt) _) (by show w.heap.size + 4 < wd.heap.size; exact hlt) _
  have s2 : OwnI ((x3.setCell ⟨w.heap.size + 4, 0, none⟩ (.slice A2 L1.length d2)).setCell ⟨w.heap.size + 4, 1, none⟩ (.slice A3 L2.length d3)) _ _ _ := ownsRow_setCell_below (ownsRow_setCell_below HO3.out (by show w.heap.size + 4 < x2.heap.size; exact Nat.lt_of_lt_of_le hlt hle) _) (by show w.heap.size + 4 < x2.heap.size; exact Nat.lt_of_lt_of_le hlt hle) _
  exact ⟨⟨.agg #[.slice A2 L1.length d2, .slice A3 L2.length d3], by rw [HEE.out]; rfl, by rw [HR.out]; exact isM_of (g := ⟨L1, L2⟩) (isI_own s1) (isI_own s2)⟩, HSZ.out.1⟩

end Go.Proofs.YthnhacncnhknnaaDoor

/-
  Parts of graphs, the reference: In, bits. Printed by mkr5.py.
-/
namespace Go.Proofs.YthnhacncnhknnaaDoor
open Go.RowKit Go.Shelf

theorem bit_small : ∀ m : Fin 64, (bits .and .i64 ((m.val : Nat) : Int) 1 == 1) = decide (m.val % 2 = 1) := by decide
theorem bit_at (set k : Nat) (hs : set < 64) : (bits .and .i64 ((set : Int) / 2 ^ k) 1 == 1) = set.testBit k := by
  have e : (set : Int) / 2 ^ k = ((set / 2 ^ k : Nat) : Int) := by rw [Int.natCast_ediv]; simp
  have hm : set / 2 ^ k < 64 := Nat.lt_of_le_of_lt (Nat.div_le_self _ _) hs
  rw [e, Nat.testBit_eq_decide_div_mod_eq]
  exact bit_small ⟨_, hm⟩
set_option maxRecDepth 100000 in
set_option maxHeartbeats 4000000 in
theorem in7_any (p q : Mo) (Pn : Option Addr) (pn : Nat) (Pe : Option Addr) (pe : Nat) (Qn : Option Addr) (qn : Nat) (Qe : Option Addr) (qe : Nat) (w : World) (hp : PtAt w Pn Pe p) (hq : PtAt w Qn Qe q) :
    Calls Tryd.prog 18 #[gval Pn p.ns.length pn Pe p.es.length pe, gval Qn q.ns.length qn Qe q.es.length qe] w fun e w' => e = .returned (.bool (inP p q)) ∧ Below w.heap.size w w' := by
  have hS0 : SR w _ ((w.alloc (.cells #[.slice Pn p.ns.length pn, .slice Pe p.es.length pe] 27)).alloc (.cells #[.slice Qn q.ns.length qn, .slice Qe q.es.length qe] 27)) := SR.push (SR.push (SR.nil w) rfl _ _ _) (by simp) _ _ _
  have HC1 := Lib.hid (fun (u : World) (hu : Below w.heap.size w u) => into7_any p.ns q.ns Pn Qn pn qn u hp.ln hq.ln (Reads.up hp.ns hu) (Reads.up hq.ns hu))
  have HC2 := Lib.hid (fun (u : World) (hu : Below w.heap.size w u) => into7_any p.es q.es Pe Qe pe qe u hp.le hq.le (Reads.up hp.es hu) (Reads.up hq.es hu))
  have HX : Hid (inP p q = (decide ((intoL p.ns q.ns).length = p.ns.length) && decide ((intoL p.es q.es).length = p.es.length))) := Lib.hid rfl
  have HS0 := Lib.hid hS0
  clear hp hq hS0
  generalize inP p q = R at *
  generalize intoL p.ns q.ns = L1 at *
  generalize intoL p.es q.es = L2 at *
  go_enter Tryd.func18, Tryd.ntmps18
  go_wp2_with fail
  generalize hw1 : ((w.alloc (.cells #[.slice Pn p.ns.length pn, .slice Pe p.es.length pe] 27)).alloc (.cells #[.slice Qn q.ns.length qn, .slice Qe q.es.length qe] 27)) = w1 at *
  clear hw1
  obtain ⟨c0x, c0y⟩ := HS0.out.cell (i := 0) rfl
  obtain ⟨c1x, c1y⟩ := HS0.out.cell (i := 1) rfl
  simp only [Nat.add_zero] at c0x c0y
  have HM : Hid (∀ u, Below w1.drew.heap.size w1.drew u → (fun u : World => u.cell? ⟨w.heap.size, 0, none⟩ = some (.slice Pn p.ns.length pn) ∧ u.cell? ⟨w.heap.size, 1, none⟩ = some (.slice Pe p.es.length pe) ∧ u.cell? ⟨w.heap.size + 1, 0, none⟩ = some (.slice Qn q.ns.length qn) ∧ u.cell? ⟨w.heap.size + 1, 1, none⟩ = some (.slice Qe q.es.length qe)) u) := Lib.hid fun u hu => ⟨cell_up hu c0x, cell_up hu c0y, cell_up hu c1x, cell_up hu c1y⟩
  have HBW : Hid (Below w.heap.size w w1.drew) := Lib.hid HS0.out.1.drew
  have WD0 := Lib.hid (Below.refl w1.drew.heap.size w1.drew)
  clear c0x c0y c1x c1y HS0
  refine wp_region_noPanic ?_
  refine wp_region_held_drew (S := (fun u : World => u.cell? ⟨w.heap.size, 0, none⟩ = some (.slice Pn p.ns.length pn) ∧ u.cell? ⟨w.heap.size, 1, none⟩ = some (.slice Pe p.es.length pe) ∧ u.cell? ⟨w.heap.size + 1, 0, none⟩ = some (.slice Qn q.ns.length qn) ∧ u.cell? ⟨w.heap.size + 1, 1, none⟩ = some (.slice Qe q.es.length qe))) (by kernel_rfl) (HM.out _ WD0.out) (fun hHeld => ?_)
  generalize w1.drew = wd at *
  refine wpAnyH_take (i := 0) (v := ?_) (oper_at (r := _) rfl) (by kernel_rfl) (by kernel_rfl) (by kernel_rfl) (fun _ _ _ h => h) (Or.inl ⟨by rfl, ?_⟩) (by assumption) ?_
  rotate_left
  · intro w hSw; try dsimp only at hSw
    go_simp
    try with_reducible rfl
  try simp only [Act.put, List.setIfInBounds_toArray, List.set_cons_zero, List.set_cons_succ]
  refine wpAnyH_take (i := 1) (v := ?_) (oper_at (r := _) rfl) (by kernel_rfl) (by kernel_rfl) (by kernel_rfl) (fun _ _ _ h => h) (Or.inl ⟨by rfl, ?_⟩) (by assumption) ?_
  rotate_left
  · intro w hSw; try dsimp only at hSw
    go_simp
    try with_reducible rfl
  try simp only [Act.put, List.setIfInBounds_toArray, List.set_cons_zero, List.set_cons_succ]
  refine wpAnyH_take (i := 2) (v := ?_) (oper_at (r := _) rfl) (by kernel_rfl) (by kernel_rfl) (by kernel_rfl) (fun _ _ _ h => h) (Or.inl ⟨by rfl, ?_⟩) (by assumption) ?_
  rotate_left
  · intro w hSw; try dsimp only at hSw
    go_simp
    try with_reducible rfl
  try simp only [Act.put, List.setIfInBounds_toArray, List.set_cons_zero, List.set_cons_succ]
  refine wpAnyH_take (i := 3) (v := ?_) (oper_at (r := _) rfl) (by kernel_rfl) (by kernel_rfl) (by kernel_rfl) (fun _ _ _ h => h) (Or.inl ⟨by rfl, ?_⟩) (by assumption) ?_
  rotate_left
  · intro w hSw; try dsimp only at hSw
    go_simp
    try with_reducible rfl
  try simp only [Act.put, List.setIfInBounds_toArray, List.set_cons_zero, List.set_cons_succ]
  refine wpAnyH_take (i := 6) (v := ?_) (oper_at (r := _) rfl) (by kernel_rfl) (by kernel_rfl) (by kernel_rfl) (fun _ _ _ h => h) (Or.inl ⟨by rfl, ?_⟩) (by assumption) ?_
  rotate_left
  · intro w hSw; try dsimp only at hSw
    go_simp
    try with_reducible rfl
  try simp only [Act.put, List.setIfInBounds_toArray, List.set_cons_zero, List.set_cons_succ]
  refine wpAnyH_take (i := 7) (v := ?_) (oper_at (r := _) rfl) (by kernel_rfl) (by kernel_rfl) (by kernel_rfl) (fun _ _ _ h => h) (Or.inl ⟨by rfl, ?_⟩) (by assumption) ?_
  rotate_left
  · intro w hSw; try dsimp only at hSw
    go_simp
    try with_reducible rfl
  try simp only [Act.put, List.setIfInBounds_toArray, List.set_cons_zero, List.set_cons_succ]
  refine wpAnyH_take (i := 8) (v := ?_) (oper_at (r := _) rfl) (by kernel_rfl) (by kernel_rfl) (by kernel_rfl) (fun _ _ _ h => h) (Or.inl ⟨by rfl, ?_⟩) (by assumption) ?_
  rotate_left
  · intro w hSw; try dsimp only at hSw
    go_simp
    try with_reducible rfl
  try simp only [Act.put, List.setIfInBounds_toArray, List.set_cons_zero, List.set_cons_succ]
  refine wpAnyH_ready (rs := [4]) (by kernel_rfl) (by simp) ?_
  refine AllReadyH.cons (oper_at (r := _) rfl) (fun K hK => ?_) AllReadyH.nil
  go_simp
  refine (HC1.out _ HBW.out).mono ?_
  rintro e x2 ⟨v2, rfl, ho2, hb2⟩
  have HB2 := Lib.hid hb2
  obtain ⟨A2, d2, rfl⟩ := OwnE.slice ho2
  clear ho2 hb2
  go_wp2_with fail
  refine hK.out _ _ (HM.out _ HB2.out) (fun _ => ?_)
  clear hK K
  try simp only [Act.put, List.setIfInBounds_toArray, List.set_cons_zero, List.set_cons_succ]
  by_cases h1 : L1.length = p.ns.length
  case neg =>
    have HR := Lib.hid (show R = false by rw [HX.out, decide_eq_false h1]; rfl)
    have t1 : ((L1.length : Int) == (p.ns.length : Int)) = false := ne_beq (by omega)
    clear h1
    refine wpAnyH_take (i := 5) (v := ?_) (oper_at (r := _) rfl) (by kernel_rfl) (by kernel_rfl) (by kernel_rfl) (fun _ _ _ h => h) (Or.inl ⟨by rfl, ?_⟩) (by assumption) ?_
    rotate_left
    · intro w hSw; try dsimp only at hSw
      go_simp
      try with_reducible rfl
    try simp only [Act.put, List.setIfInBounds_toArray, List.set_cons_zero, List.set_cons_succ]
    refine wpAnyH_take (i := 9) (v := ?_) (oper_at (r := _) rfl) (by kernel_rfl) (by kernel_rfl) (by kernel_rfl) (fun _ _ _ h => h) (Or.inl ⟨by rfl, ?_⟩) (by assumption) ?_
    rotate_left
    · intro w hSw; try dsimp only at hSw
      go_simp
      try with_reducible rfl
    try simp only [Act.put, List.setIfInBounds_toArray, List.set_cons_zero, List.set_cons_succ]
    refine wpAnyH_take (i := 10) (v := ?_) (oper_at (r := _) rfl) (by kernel_rfl) (by kernel_rfl) (by kernel_rfl) (fun _ _ _ h => h) (Or.inl ⟨by rfl, ?_⟩) (by assumption) ?_
    rotate_left
    · intro w hSw; try dsimp only at hSw
      go_simp
      try with_reducible rfl
    try simp only [Act.put, List.setIfInBounds_toArray, List.set_cons_zero, List.set_cons_succ]
    refine wpAnyH_take (i := 11) (v := undef) (oper_at (r := _) rfl) (by kernel_rfl) (by kernel_rfl) (by kernel_rfl) (fun _ _ _ h => h) (Or.inr ⟨by rfl, rfl⟩) (by assumption) ?_
    try simp only [Act.put, List.setIfInBounds_toArray, List.set_cons_zero, List.set_cons_succ]
    refine wpAnyH_take (i := 12) (v := undef) (oper_at (r := _) rfl) (by kernel_rfl) (by kernel_rfl) (by kernel_rfl) (fun _ _ _ h => h) (Or.inr ⟨by rfl, rfl⟩) (by assumption) ?_
    try simp only [Act.put, List.setIfInBounds_toArray, List.set_cons_zero, List.set_cons_succ]
    refine wpAnyH_take (i := 13) (v := undef) (oper_at (r := _) rfl) (by kernel_rfl) (by kernel_rfl) (by kernel_rfl) (fun _ _ _ h => h) (Or.inr ⟨by rfl, rfl⟩) (by assumption) ?_
    try simp only [Act.put, List.setIfInBounds_toArray, List.set_cons_zero, List.set_cons_succ]
    refine wpAnyH_take (i := 14) (v := undef) (oper_at (r := _) rfl) (by kernel_rfl) (by kernel_rfl) (by kernel_rfl) (fun _ _ _ h => h) (Or.inr ⟨by rfl, rfl⟩) (by assumption) ?_
    try simp only [Act.put, List.setIfInBounds_toArray, List.set_cons_zero, List.set_cons_succ]
    refine wpAnyH_take (i := 17) (v := undef) (oper_at (r := _) rfl) (by kernel_rfl) (by kernel_rfl) (by kernel_rfl) (fun _ _ _ h => h) (Or.inr ⟨by rfl, rfl⟩) (by assumption) ?_
    try simp only [Act.put, List.setIfInBounds_toArray, List.set_cons_zero, List.set_cons_succ]
    refine wpAnyH_take (i := 18) (v := undef) (oper_at (r := _) rfl) (by kernel_rfl) (by kernel_rfl) (by kernel_rfl) (fun _ _ _ h => h) (Or.inr ⟨by rfl, rfl⟩) (by assumption) ?_
    try simp only [Act.put, List.setIfInBounds_toArray, List.set_cons_zero, List.set_cons_succ]
    refine wpAnyH_take (i := 19) (v := undef) (oper_at (r := _) rfl) (by kernel_rfl) (by kernel_rfl) (by kernel_rfl) (fun _ _ _ h => h) (Or.inr ⟨by rfl, rfl⟩) (by assumption) ?_
    try simp only [Act.put, List.setIfInBounds_toArray, List.set_cons_zero, List.set_cons_succ]
    refine wpAnyH_ready (rs := [15]) (by kernel_rfl) (by simp) ?_
    refine AllReadyH.cons (oper_at (r := _) rfl) (fun K hK => ?_) AllReadyH.nil
    rw [if_neg (by rw [show Region.wanted _ _ = false from rfl]; exact Bool.false_ne_true)]
    refine hK.out _ _ (HM.out _ HB2.out) (fun _ => ?_)
    clear hK K
    try simp only [Act.put, List.setIfInBounds_toArray, List.set_cons_zero, List.set_cons_succ]
    refine wpAnyH_take (i := 16) (v := undef) (oper_at (r := _) rfl) (by kernel_rfl) (by kernel_rfl) (by kernel_rfl) (fun _ _ _ h => h) (Or.inr ⟨by rfl, rfl⟩) (by assumption) ?_
    try simp only [Act.put, List.setIfInBounds_toArray, List.set_cons_zero, List.set_cons_succ]
    refine wpAnyH_take (i := 20) (v := undef) (oper_at (r := _) rfl) (by kernel_rfl) (by kernel_rfl) (by kernel_rfl) (fun _ _ _ h => h) (Or.inr ⟨by rfl, rfl⟩) (by assumption) ?_
    try simp only [Act.put, List.setIfInBounds_toArray, List.set_cons_zero, List.set_cons_succ]
    refine wpAnyH_take (i := 21) (v := ?_) (oper_at (r := _) rfl) (by kernel_rfl) (by kernel_rfl) (by kernel_rfl) (fun _ _ _ h => h) (Or.inl ⟨by rfl, ?_⟩) (by assumption) ?_
    rotate_left
    · intro w hSw; try dsimp only at hSw
      go_simp
      try with_reducible rfl
    try simp only [Act.put, List.setIfInBounds_toArray, List.set_cons_zero, List.set_cons_succ]
    refine wpAnyH_take (i := 22) (v := ?_) (oper_at (r := _) rfl) (by kernel_rfl) (by kernel_rfl) (by kernel_rfl) (fun _ _ _ h => h) (Or.inl ⟨by rfl, ?_⟩) (by assumption) ?_
    rotate_left
    · intro w hSw; try dsimp only at hSw
      go_simp
      try with_reducible rfl
    try simp only [Act.put, List.setIfInBounds_toArray, List.set_cons_zero, List.set_cons_succ]
    refine wpAnyH_done (by kernel_rfl) ?_ _
    refine NoPanic.normal ?_
    go_wp2_with fail
    go_ret
    exact ⟨ret_bool (by rw [HR.out]), HBW.out.trans (HB2.out.mono HBW.out.size)⟩
  have t1 : ((L1.length : Int) == (p.ns.length : Int)) = true := beq_iff_eq.2 (by omega)
  have HR := Lib.hid (show R = decide (L2.length = p.es.length) by rw [HX.out, decide_eq_true h1, Bool.true_and])
  clear h1
  refine wpAnyH_take (i := 5) (v := ?_) (oper_at (r := _) rfl) (by kernel_rfl) (by kernel_rfl) (by kernel_rfl) (fun _ _ _ h => h) (Or.inl ⟨by rfl, ?_⟩) (by assumption) ?_
  rotate_left
  · intro w hSw; try dsimp only at hSw
    go_simp
    try with_reducible rfl
  try simp only [Act.put, List.setIfInBounds_toArray, List.set_cons_zero, List.set_cons_succ]
  refine wpAnyH_take (i := 9) (v := ?_) (oper_at (r := _) rfl) (by kernel_rfl) (by kernel_rfl) (by kernel_rfl) (fun _ _ _ h => h) (Or.inl ⟨by rfl, ?_⟩) (by assumption) ?_
  rotate_left
  · intro w hSw; try dsimp only at hSw
    go_simp
    try with_reducible rfl
  try simp only [Act.put, List.setIfInBounds_toArray, List.set_cons_zero, List.set_cons_succ]
  refine wpAnyH_take (i := 10) (v := ?_) (oper_at (r := _) rfl) (by kernel_rfl) (by kernel_rfl) (by kernel_rfl) (fun _ _ _ h => h) (Or.inl ⟨by rfl, ?_⟩) (by assumption) ?_
  rotate_left
  · intro w hSw; try dsimp only at hSw
    go_simp
    try with_reducible rfl
  try simp only [Act.put, List.setIfInBounds_toArray, List.set_cons_zero, List.set_cons_succ]
  refine wpAnyH_take (i := 11) (v := ?_) (oper_at (r := _) rfl) (by kernel_rfl) (by kernel_rfl) (by kernel_rfl) (fun _ _ _ h => h) (Or.inl ⟨by rfl, ?_⟩) (by assumption) ?_
  rotate_left
  · intro w hSw; try dsimp only at hSw
    go_simp
    try with_reducible rfl
  try simp only [Act.put, List.setIfInBounds_toArray, List.set_cons_zero, List.set_cons_succ]
  refine wpAnyH_take (i := 12) (v := ?_) (oper_at (r := _) rfl) (by kernel_rfl) (by kernel_rfl) (by kernel_rfl) (fun _ _ _ h => h) (Or.inl ⟨by rfl, ?_⟩) (by assumption) ?_
  rotate_left
  · intro w hSw; try dsimp only at hSw
    go_simp
    try with_reducible rfl
  try simp only [Act.put, List.setIfInBounds_toArray, List.set_cons_zero, List.set_cons_succ]
  refine wpAnyH_take (i := 13) (v := ?_) (oper_at (r := _) rfl) (by kernel_rfl) (by kernel_rfl) (by kernel_rfl) (fun _ _ _ h => h) (Or.inl ⟨by rfl, ?_⟩) (by assumption) ?_
  rotate_left
  · intro w hSw; try dsimp only at hSw
    go_simp
    try with_reducible rfl
  try simp only [Act.put, List.setIfInBounds_toArray, List.set_cons_zero, List.set_cons_succ]
  refine wpAnyH_take (i := 14) (v := ?_) (oper_at (r := _) rfl) (by kernel_rfl) (by kernel_rfl) (by kernel_rfl) (fun _ _ _ h => h) (Or.inl ⟨by rfl, ?_⟩) (by assumption) ?_
  rotate_left
  · intro w hSw; try dsimp only at hSw
    go_simp
    try with_reducible rfl
  try simp only [Act.put, List.setIfInBounds_toArray, List.set_cons_zero, List.set_cons_succ]
  refine wpAnyH_take (i := 17) (v := ?_) (oper_at (r := _) rfl) (by kernel_rfl) (by kernel_rfl) (by kernel_rfl) (fun _ _ _ h => h) (Or.inl ⟨by rfl, ?_⟩) (by assumption) ?_
  rotate_left
  · intro w hSw; try dsimp only at hSw
    go_simp
    try with_reducible rfl
  try simp only [Act.put, List.setIfInBounds_toArray, List.set_cons_zero, List.set_cons_succ]
  refine wpAnyH_take (i := 18) (v := ?_) (oper_at (r := _) rfl) (by kernel_rfl) (by kernel_rfl) (by kernel_rfl) (fun _ _ _ h => h) (Or.inl ⟨by rfl, ?_⟩) (by assumption) ?_
  rotate_left
  · intro w hSw; try dsimp only at hSw
    go_simp
    try with_reducible rfl
  try simp only [Act.put, List.setIfInBounds_toArray, List.set_cons_zero, List.set_cons_succ]
  refine wpAnyH_take (i := 19) (v := ?_) (oper_at (r := _) rfl) (by kernel_rfl) (by kernel_rfl) (by kernel_rfl) (fun _ _ _ h => h) (Or.inl ⟨by rfl, ?_⟩) (by assumption) ?_
  rotate_left
  · intro w hSw; try dsimp only at hSw
    go_simp
    try with_reducible rfl
  try simp only [Act.put, List.setIfInBounds_toArray, List.set_cons_zero, List.set_cons_succ]
  refine wpAnyH_ready (rs := [15]) (by kernel_rfl) (by simp) ?_
  refine AllReadyH.cons (oper_at (r := _) rfl) (fun K hK => ?_) AllReadyH.nil
  go_simp
  refine (HC2.out _ (HBW.out.trans (HB2.out.mono HBW.out.size))).mono ?_
  rintro e x3 ⟨v3, rfl, ho3, hb3⟩
  have HB3 := Lib.hid (HB2.out.trans (hb3.mono HB2.out.size))
  obtain ⟨A3, d3, rfl⟩ := OwnE.slice ho3
  clear ho3 hb3
  go_wp2_with fail
  refine hK.out _ _ (HM.out _ HB3.out) (fun _ => ?_)
  clear hK K
  try simp only [Act.put, List.setIfInBounds_toArray, List.set_cons_zero, List.set_cons_succ]
  by_cases h2 : L2.length = p.es.length
  · have HR2 := Lib.hid (show R = true by rw [HR.out]; exact decide_eq_true h2)
    have t2 : ((L2.length : Int) == (p.es.length : Int)) = true := beq_iff_eq.2 (by omega)
    clear h2
    refine wpAnyH_take (i := 16) (v := ?_) (oper_at (r := _) rfl) (by kernel_rfl) (by kernel_rfl) (by kernel_rfl) (fun _ _ _ h => h) (Or.inl ⟨by rfl, ?_⟩) (by assumption) ?_
    rotate_left
    · intro w hSw; try dsimp only at hSw
      go_simp
      try with_reducible rfl
    try simp only [Act.put, List.setIfInBounds_toArray, List.set_cons_zero, List.set_cons_succ]
    refine wpAnyH_take (i := 20) (v := ?_) (oper_at (r := _) rfl) (by kernel_rfl) (by kernel_rfl) (by kernel_rfl) (fun _ _ _ h => h) (Or.inl ⟨by rfl, ?_⟩) (by assumption) ?_
    rotate_left
    · intro w hSw; try dsimp only at hSw
      go_simp
      try with_reducible rfl
    try simp only [Act.put, List.setIfInBounds_toArray, List.set_cons_zero, List.set_cons_succ]
    refine wpAnyH_take (i := 21) (v := ?_) (oper_at (r := _) rfl) (by kernel_rfl) (by kernel_rfl) (by kernel_rfl) (fun _ _ _ h => h) (Or.inl ⟨by rfl, ?_⟩) (by assumption) ?_
    rotate_left
    · intro w hSw; try dsimp only at hSw
      go_simp
      try with_reducible rfl
    try simp only [Act.put, List.setIfInBounds_toArray, List.set_cons_zero, List.set_cons_succ]
    refine wpAnyH_take (i := 22) (v := ?_) (oper_at (r := _) rfl) (by kernel_rfl) (by kernel_rfl) (by kernel_rfl) (fun _ _ _ h => h) (Or.inl ⟨by rfl, ?_⟩) (by assumption) ?_
    rotate_left
    · intro w hSw; try dsimp only at hSw
      go_simp
      try with_reducible rfl
    try simp only [Act.put, List.setIfInBounds_toArray, List.set_cons_zero, List.set_cons_succ]
    refine wpAnyH_done (by kernel_rfl) ?_ _
    refine NoPanic.normal ?_
    go_wp2_with fail
    go_ret
    exact ⟨ret_bool (by rw [HR2.out]), HBW.out.trans (HB3.out.mono HBW.out.size)⟩
  · have HR2 := Lib.hid (show R = false by rw [HR.out]; exact decide_eq_false h2)
    have t2 : ((L2.length : Int) == (p.es.length : Int)) = false := ne_beq (by omega)
    clear h2
    refine wpAnyH_take (i := 16) (v := ?_) (oper_at (r := _) rfl) (by kernel_rfl) (by kernel_rfl) (by kernel_rfl) (fun _ _ _ h => h) (Or.inl ⟨by rfl, ?_⟩) (by assumption) ?_
    rotate_left
    · intro w hSw; try dsimp only at hSw
      go_simp
      try with_reducible rfl
    try simp only [Act.put, List.setIfInBounds_toArray, List.set_cons_zero, List.set_cons_succ]
    refine wpAnyH_take (i := 20) (v := ?_) (oper_at (r := _) rfl) (by kernel_rfl) (by kernel_rfl) (by kernel_rfl) (fun _ _ _ h => h) (Or.inl ⟨by rfl, ?_⟩) (by assumption) ?_
    rotate_left
    · intro w hSw; try dsimp only at hSw
      go_simp
      try with_reducible rfl
    try simp only [Act.put, List.setIfInBounds_toArray, List.set_cons_zero, List.set_cons_succ]
    refine wpAnyH_take (i := 21) (v := ?_) (oper_at (r := _) rfl) (by kernel_rfl) (by kernel_rfl) (by kernel_rfl) (fun _ _ _ h => h) (Or.inl ⟨by rfl, ?_⟩) (by assumption) ?_
    rotate_left
    · intro w hSw; try dsimp only at hSw
      go_simp
      try with_reducible rfl
    try simp only [Act.put, List.setIfInBounds_toArray, List.set_cons_zero, List.set_cons_succ]
    refine wpAnyH_take (i := 22) (v := ?_) (oper_at (r := _) rfl) (by kernel_rfl) (by kernel_rfl) (by kernel_rfl) (fun _ _ _ h => h) (Or.inl ⟨by rfl, ?_⟩) (by assumption) ?_
    rotate_left
    · intro w hSw; try dsimp only at hSw
      go_simp
      try with_reducible rfl
    try simp only [Act.put, List.setIfInBounds_toArray, List.set_cons_zero, List.set_cons_succ]
    refine wpAnyH_done (by kernel_rfl) ?_ _
    refine NoPanic.normal ?_
    go_wp2_with fail
    go_ret
    exact ⟨ret_bool (by rw [HR2.out]), HBW.out.trans (HB3.out.mono HBW.out.size)⟩

set_option maxHeartbeats 1000000 in
theorem bits_any (n set : Nat) (w : World) (hn : n ≤ 6) (hs : set < 64) :
    Calls Tryd.prog 72 #[.int .i64 (n : Int), .int .i64 (set : Int)] w fun e w' => ∃ v, e = .returned v ∧ OwnI w' w.heap.size v (sel (fun i => set.testBit i) n) ∧ Below w.heap.size w w' := by
  have HY := Lib.hid (fun k (h : (fun i => set.testBit i) k = true) => sel_yes (f := (fun i => set.testBit i)) h)
  have HN := Lib.hid (fun k (h : (fun i => set.testBit i) k = false) => sel_no (f := (fun i => set.testBit i)) h)
  have HLE := Lib.hid (fun k => sel_le (fun i => set.testBit i) k)
  have H0 : Hid (sel (fun i => set.testBit i) 0 = []) := Lib.hid rfl
  generalize sel (fun i => set.testBit i) = P at *
  go_enter Tryd.func72, Tryd.ntmps72
  go_wp2_with fail
  go_loopw [5, 6] (fun v x wr => ∃ k : Nat, k ≤ n ∧ x = .int .i64 (k : Int) ∧ OwnI wr w.heap.size v (P k) ∧ Below w.heap.size w wr) (fun _ x _ => n - (intOf x).toNat)
  case atStart => exact ⟨0, Nat.zero_le _, rfl, by rw [H0.out]; exact OwnE.nil _ _ _, Below.refl _ _⟩
  case round =>
    obtain ⟨k, hk, rfl, hown, hbel⟩ := hrel
    have HG := Lib.hid hbel
    have hsz := hbel.size
    have e9 := HLE.out k
    obtain ⟨ao, cap, rfl⟩ := OwnE.slice hown
    have HW := Lib.hid hown
    by_cases hlt : k < n
    · have hk0 : (0 : Int) ≤ (k : Int) := by omega
      have hk1 : (k : Int) < ((n : Nat) : Int) := by omega
      have hk2 : ((k : Int)).toNat = k := by omega
      have HM : Hid (n - ((k : Int) + 1).toNat < n - ((k : Int)).toNat) := Lib.hid (by omega)
      have HLT := Lib.hid hlt
      clear hown hbel
      have HBT := Lib.hid (bit_at set k hs)
      cases hz : set.testBit k
      case false =>
        have HN2 := Lib.hid (HN.out k hz)
        rw [hz] at HBT
        have t2 := HBT.out
        clear hz
        go_wp2_with fail
        go_roundw
        case rel => exact ⟨k + 1, HLT.out, by go_num, by rw [HN2.out]; exact HW.out, HG.out⟩
        case measure => exact HM.out
      case true =>
        have HY2 := Lib.hid (HY.out k hz)
        rw [hz] at HBT
        have t2 := HBT.out
        clear hz
        go_wp2_with (at_builtin; refine wpList_append_int (w := wr.alloc _) rfl _ _ rfl w.heap.size _ (P k) rfl ?y1 wr.heap.size 1 (k : Int) rfl ?y2 ?y3 ?y4 ?_)
        case y1 => exact HW.out.alloc _
        case y2 => exact cell_new _ _ _
        case y3 => omega
        case y4 => simp; omega
        intro v2 w2 hown2 _ hb2
        have HW2 := Lib.hid (OwnE.cast HY2.out.symm hown2)
        have HB2 := Lib.hid ((HG.out.alloc hsz _).trans hb2)
        clear hown2 hb2
        go_wp2_with fail
        go_roundw
        case rel => exact ⟨k + 1, HLT.out, by go_num, HW2.out, HB2.out⟩
        case measure => exact HM.out
    · have e : k = n := by omega
      subst e
      clear hown hbel
      go_wp2_with fail
      go_ret
      exact ⟨_, rfl, HW.out, HG.out⟩

end Go.Proofs.YthnhacncnhknnaaDoor
