import Derived.Test.YthnhacncnhknnaaDoorZ06
/-
  Parts of graphs, the reference: Least. Printed by mkr6.py.
-/
namespace Go.Proofs.YthnhacncnhknnaaDoor
open Go.RowKit Go.Shelf

/-! marks that grow edge by edge -/
def tchS (g : Gr) (l : List Bool) (e : Nat) : List Bool := (l.set (frN g e) true).set (toN g e) true
def tchTo (g : Gr) (nb : List Bool) (eb : Nat → Bool) : Nat → List Bool
  | 0 => nb
  | k + 1 => if eb k = true then tchS g (tchTo g nb eb k) k else tchTo g nb eb k
theorem tchTo_len (g : Gr) (nb : List Bool) (eb : Nat → Bool) (k : Nat) : (tchTo g nb eb k).length = nb.length := by
  induction k with
  | zero => rfl
  | succ k ih =>
    simp only [tchTo]
    split
    · simp [tchS, ih]
    · exact ih
theorem tchTo_yes {g : Gr} {nb : List Bool} {eb : Nat → Bool} {k : Nat} (h : eb k = true) : tchTo g nb eb (k + 1) = ((tchTo g nb eb k).set (frN g k) true).set (toN g k) true := by simp only [tchTo]; rw [if_pos h]; rfl
theorem tchTo_no {g : Gr} {nb : List Bool} {eb : Nat → Bool} {k : Nat} (h : eb k = false) : tchTo g nb eb (k + 1) = tchTo g nb eb k := by simp only [tchTo]; rw [if_neg (by simp [h])]
theorem set_getD {l : List Bool} {a i : Nat} (h : i < l.length) : (l.set a true).getD i false = (l.getD i false || decide (a = i)) := by
  rw [List.getD_eq_getElem?_getD, List.getD_eq_getElem?_getD, List.getElem?_set]
  by_cases e : a = i
  · subst e; rw [if_pos rfl, if_pos h]; simp
  · rw [if_neg e]; simp [e]
theorem tchTo_at {g : Gr} {nb : List Bool} {eb : Nat → Bool} {k i : Nat} (hi : i < nb.length) : (tchTo g nb eb k).getD i false = true ↔ nb.getD i false = true ∨ ∃ e, e < k ∧ eb e = true ∧ (frN g e = i ∨ toN g e = i) := by
  induction k with
  | zero => simp [tchTo]
  | succ k ih =>
    have hl := tchTo_len g nb eb k
    by_cases hb : eb k = true
    · rw [tchTo_yes hb, set_getD (by simp [hl]; exact hi), set_getD (by omega), Bool.or_eq_true, Bool.or_eq_true, ih, decide_eq_true_iff, decide_eq_true_iff]
      constructor
      · rintro ((h | h) | h)
        · rcases h with h | ⟨e, h1, h2, h3⟩
          · exact .inl h
          · exact .inr ⟨e, by omega, h2, h3⟩
        · exact .inr ⟨k, by omega, hb, .inl h⟩
        · exact .inr ⟨k, by omega, hb, .inr h⟩
      · rintro (h | ⟨e, h1, h2, h3⟩)
        · exact .inl (.inl (.inl h))
        · by_cases he : e = k
          · subst he
            rcases h3 with h3 | h3
            · exact .inl (.inr h3)
            · exact .inr h3
          · exact .inl (.inl (.inr ⟨e, by omega, h2, h3⟩))
    · rw [tchTo_no (by simpa using hb), ih]
      constructor
      · rintro (h | ⟨e, h1, h2, h3⟩)
        · exact .inl h
        · exact .inr ⟨e, by omega, h2, h3⟩
      · rintro (h | ⟨e, h1, h2, h3⟩)
        · exact .inl h
        · by_cases he : e = k
          · subst he; exact absurd h2 hb
          · exact .inr ⟨e, by omega, h2, h3⟩
theorem tch_least {g : Gr} {nb eb : List Bool} (hn : nb.length = g.ns.length) (he : eb.length = g.es.length) :
    (⟨sel (fun i => (tchTo g nb (fun e => eb.getD e false) eb.length).getD i false) (tchTo g nb (fun e => eb.getD e false) eb.length).length, sel (fun i => eb.getD i false) eb.length⟩ : Mo) = leastP g (fun i => nb.getD i false) (fun e => eb.getD e false) := by
  unfold leastP
  rw [tchTo_len, hn, he]
  congr 1
  refine sel_ext fun i hi => ?_
  rw [Bool.eq_iff_iff, tchTo_at (by omega), Bool.or_eq_true, touch_iff]

theorem OwnB.cell {w : World} {base g c n : Nat} {xs : List Bool} (hn : n = xs.length) (h : OwnB w base (.slice (some ⟨g, 0, none⟩) n c) xs) {j : Nat} (hj : j < n) : w.cell? ⟨g, j, none⟩ = some (.bool (xs.getD j false)) := by
  subst hn
  obtain ⟨A, c', e, hR⟩ := OwnE.reads h
  simp only [Value.slice.injEq] at e
  obtain ⟨b, off, e1, _, h3⟩ := Bos.cells hR hj
  rw [← e.1] at e1
  injection e1 with e1
  injection e1 with e2 e3 _
  subst e2 e3
  have := h3 j hj
  rwa [Nat.zero_add] at this
theorem SR.far {w u : World} {L : List Bx} (h : SR w L u) {p : Addr} (hp : w.heap.size + L.length ≤ p.block) (v : Value) : SR w L (u.setCell p v) := by
  refine ⟨h.1.setCell (p := p) (by omega) v, fun i x hx => ?_⟩
  have hl : i < L.length := (List.getElem?_eq_some_iff.1 hx).1
  exact (heap_setCell_other _ _ _ _ (by omega)).trans (h.2 i x hx)
set_option maxRecDepth 100000 in
set_option maxHeartbeats 4000000 in
theorem least7_any (g : Gr) (nb eb : List Bool) (An : Option Addr) (cn : Nat) (Ae : Option Addr) (ce : Nat) (A : Option Addr) (a : Nat) (B : Option Addr) (b : Nat) (w : World) (hv : validE g = 0) (hn : nb.length = g.ns.length) (he : eb.length = g.es.length) (hg : GrAt w An cn Ae ce g) (hA : Bos w w.heap.size A nb) (hB : Bos w w.heap.size B eb) :
    Calls Tryd.prog 49 #[gval An g.ns.length cn Ae g.es.length ce, .slice A nb.length a, .slice B eb.length b] w fun e w' => (∃ v, e = .returned v ∧ IsM w' v (leastP g (fun i => nb.getD i false) (fun e => eb.getD e false))) ∧ Below w.heap.size w w' := by
  have hS0 : SR w [(.slice An g.ns.length cn, .slice Ae g.es.length ce, 25), (.slice none 0 0, .slice none 0 0, 27)] ((w.alloc (.cells #[.slice An g.ns.length cn, .slice Ae g.es.length ce] 25)).alloc (.cells #[.slice none 0 0, .slice none 0 0] 27)) := SR.push (SR.push (SR.nil w) rfl _ _ _) (by simp) _ _ _
  have HLE := Lib.hid (tch_least (g := g) hn he)
  have HAA := Lib.hid (fun (u : World) (hu : Below w.heap.size w u) => Reads.below hA hu)
  have HBB := Lib.hid (fun (u : World) (hu : Below w.heap.size w u) => Reads.below hB hu)
  have HGE := Lib.hid (fun (u : World) (hu : Below w.heap.size w u) => Reads.below hg.es hu)
  have HFR := Lib.hid (fun i (hi : i < g.es.length) => fr_eq hv hi)
  have HV := Lib.hid (valid_zero hv)
  have HLN := Lib.hid (fun k => tchTo_len g nb (fun e => eb.getD e false) k)
  have HY := Lib.hid (fun k (h : (fun e => eb.getD e false) k = true) => tchTo_yes (g := g) (nb := nb) (eb := fun e => eb.getD e false) h)
  have HN := Lib.hid (fun k (h : (fun e => eb.getD e false) k = false) => tchTo_no (g := g) (nb := nb) (eb := fun e => eb.getD e false) h)
  have H0 : Hid (tchTo g nb (fun e => eb.getD e false) 0 = nb) := Lib.hid rfl
  have HNN := Lib.hid hn
  have HEE := Lib.hid he
  have HS0 := Lib.hid hS0
  have hl1 : nb.length ≤ 1000 := by have := HV.out.1; omega
  have hl2 : eb.length ≤ 1000 := by have := HV.out.2.1; omega
  clear hS0 hv hn he hg hA hB
  generalize leastP g (fun i => nb.getD i false) (fun e => eb.getD e false) = R at *
  generalize tchTo g nb (fun e => eb.getD e false) = P at *
  go_enter Tryd.func49, Tryd.ntmps49
  go_upto_region 1 with fail
  generalize (w.alloc (.cells #[.slice An g.ns.length cn, .slice Ae g.es.length ce] 25)).alloc (.cells #[.slice none 0 0, .slice none 0 0] 27) = w1 at *
  go_wp2_with (at_builtin; refine wpList_append_Z (E := EBo) rfl _ _ 74 4 rfl Tryd.underlying74 infoBo rfl (by decide) (by decide) w1.heap.size (.slice (some ⟨w1.heap.size, 0, none⟩) 0 0) [] rfl (.inr ⟨rfl, _, rfl⟩) A nb.length a w.heap.size nb rfl rfl ?y1 ?y2 ?y3 ?y4 ?_)
  case y1 => exact HAA.out _ (HS0.out.1.trans ((below_a _ _).mono HS0.out.1.size))
  case y3 => omega
  intro v2 w2 hz2 hg2
  have hb2 : Below w1.heap.size w1 w2 := (below_a _ _).trans hg2.1
  have HS2 := Lib.hid (HS0.out.up hb2)
  have HZ2 := Lib.hid hz2
  have HGB : Hid (w.heap.size + 2 ≤ w1.heap.size) := Lib.hid (heap_lt (HS0.out.2 1 _ rfl))
  obtain ⟨ao, cap, rfl⟩ := hz2.slice
  clear hz2 hg2 hb2 HS0
  go_wp2_with fail
  go_loopw [8] (fun x wr => ∃ k : Nat, k ≤ eb.length ∧ x = .int .i64 (k : Int) ∧ OwnZ EBo 4 wr w1.heap.size (.slice ao nb.length cap) (P k) ∧ SR w [(.slice An g.ns.length cn, .slice Ae g.es.length ce, 25), (.slice none 0 0, .slice none 0 0, 27)] wr) (fun x _ => eb.length - (intOf x).toNat)
  case atStart => exact ⟨0, Nat.zero_le _, rfl, by rw [H0.out]; exact HZ2.out, HS2.out⟩
  case round =>
    clear HZ2 HS2
    obtain ⟨k, hk, rfl, hz, hs⟩ := hrel
    have HZ := Lib.hid hz
    have HS := Lib.hid hs
    clear hz hs
    by_cases hlt : k < eb.length
    · obtain ⟨b1, off1, hBe, hb1, hc⟩ := Bos.cells (HBB.out _ HS.out.1) hlt
      have ck := hc k hlt
      subst hBe
      have i0 : (0 : Int) ≤ (k : Int) := by omega
      have i1 : (k : Int) < (eb.length : Int) := by omega
      have i2 : ((k : Int)).toNat = k := by omega
      have HLT := Lib.hid hlt
      have HM : Hid (eb.length - ((k : Int) + 1).toNat < eb.length - ((k : Int)).toNat) := Lib.hid (by omega)
      clear hc
      cases hz : eb.getD k false
      case false =>
        have HN2 := Lib.hid (HN.out k hz)
        rw [hz] at ck
        clear hz hlt
        go_wp2_with fail
        go_roundw
        case rel => exact ⟨k + 1, HLT.out, by go_num, by rw [HN2.out]; exact HZ.out, HS.out⟩
        case measure => exact HM.out
      case true =>
        have hke : k < g.es.length := by have := HEE.out; omega
        have HY2 := Lib.hid (HY.out k hz)
        rw [hz] at ck
        obtain ⟨e1, l1, e2, l2⟩ := HFR.out k hke
        obtain ⟨b2, off2, hAe, hb2, hd⟩ := Eds.cells (HGE.out _ HS.out.1) hke
        obtain ⟨d0, d1, d2⟩ := hd k hke
        rw [e1] at d1
        rw [e2] at d2
        subst hAe
        have j1 : (k : Int) < (g.es.length : Int) := by omega
        have hpl : (P k).length = g.ns.length := by rw [HLN.out, HNN.out]
        have hown : OwnB wr w1.heap.size (.slice ao nb.length cap) (P k) := by
          rcases HZ.out with h | ⟨h, _⟩
          · exact h
          · rw [h] at hpl; simp at hpl; omega
        obtain ⟨gb, cp, hv, hgb, hgl⟩ := OwnE.pos hown (by omega)
        injection hv with hv hv1 hv2
        subst hv hv2
        clear hv1
        have HO := Lib.hid hown
        have f0 : (0 : Int) ≤ (frN g k : Int) := by omega
        have f1 : (frN g k : Int) < (nb.length : Int) := by have := HNN.out; omega
        have f2 : ((frN g k : Int)).toNat = frN g k := by omega
        have t0 : (0 : Int) ≤ (toN g k : Int) := by omega
        have t1 : (toN g k : Int) < (nb.length : Int) := by have := HNN.out; omega
        have t2 : ((toN g k : Int)).toNat = toN g k := by omega
        have HNF : Hid (frN g k < nb.length ∧ toN g k < nb.length) := Lib.hid (by have := HNN.out; omega)
        have HPN : Hid (nb.length = (P k).length) := Lib.hid (HLN.out k).symm
        have HGW : Hid (w.heap.size + 2 ≤ gb) := Lib.hid (by have := HGB.out; omega)
        have HNE : Hid (gb ≠ w.heap.size ∧ gb ≠ b2) := Lib.hid (by have := HGB.out; omega)
        obtain ⟨c0, c1⟩ := HS.out.cell (i := 0) rfl
        simp only [Nat.add_zero] at c0 c1
        generalize frN g k = fr at *
        generalize toN g k = tt at *
        generalize (g.es.getD k default).ty = ty at *
        clear hd hz hlt hke e1 e2 l1 l2 hpl hown hgb hgl
        go_upto_region 6 with fail
        have HSW : Hid ((fun u : World => u.cell? ⟨w.heap.size, 1, none⟩ = some (.slice (some ⟨b2, off2, none⟩) g.es.length ce) ∧ u.cell? ⟨b2, off2 + k * 3, none⟩ = some (.int .i64 ty) ∧ u.cell? ⟨b2, off2 + k * 3 + 1, none⟩ = some (.int .i64 (fr : Int)) ∧ u.cell? ⟨b2, off2 + k * 3 + 2, none⟩ = some (.int .i64 (tt : Int))) wr.drew) := Lib.hid ⟨c1, d0, d1, d2⟩
        have HSS : Hid (∀ (u : World) (q : Nat) (x : Value), (fun u : World => u.cell? ⟨w.heap.size, 1, none⟩ = some (.slice (some ⟨b2, off2, none⟩) g.es.length ce) ∧ u.cell? ⟨b2, off2 + k * 3, none⟩ = some (.int .i64 ty) ∧ u.cell? ⟨b2, off2 + k * 3 + 1, none⟩ = some (.int .i64 (fr : Int)) ∧ u.cell? ⟨b2, off2 + k * 3 + 2, none⟩ = some (.int .i64 (tt : Int))) u → (fun u : World => u.cell? ⟨w.heap.size, 1, none⟩ = some (.slice (some ⟨b2, off2, none⟩) g.es.length ce) ∧ u.cell? ⟨b2, off2 + k * 3, none⟩ = some (.int .i64 ty) ∧ u.cell? ⟨b2, off2 + k * 3 + 1, none⟩ = some (.int .i64 (fr : Int)) ∧ u.cell? ⟨b2, off2 + k * 3 + 2, none⟩ = some (.int .i64 (tt : Int))) (u.setCell ⟨gb, q, none⟩ x)) := Lib.hid fun u q x h => ⟨(World.cell?_setCell_far u ⟨gb, q, none⟩ _ x (fun e => HNE.out.1 e)).trans h.1, (World.cell?_setCell_far u ⟨gb, q, none⟩ _ x (fun e => HNE.out.2 e)).trans h.2.1, (World.cell?_setCell_far u ⟨gb, q, none⟩ _ x (fun e => HNE.out.2 e)).trans h.2.2.1, (World.cell?_setCell_far u ⟨gb, q, none⟩ _ x (fun e => HNE.out.2 e)).trans h.2.2.2⟩
        have HOD : Hid (OwnB wr.drew w1.heap.size (.slice (some ⟨gb, 0, none⟩) nb.length cap) (P k)) := Lib.hid (OwnE.below HO.out (below_d wr) (Nat.le_refl _))
        have HSD := Lib.hid (HS.out.up (below_d wr))
        have HO1 := Lib.hid (OwnB.set HPN.out HOD.out fr true).1
        have HO2 : Hid (OwnB ((wr.drew.setCell ⟨gb, fr, none⟩ (.bool true)).setCell ⟨gb, tt, none⟩ (.bool true)) w1.heap.size (.slice (some ⟨gb, 0, none⟩) nb.length cap) (((P k).set fr true).set tt true)) := Lib.hid (OwnB.set (by rw [List.length_set]; exact HPN.out) HO1.out tt true).1
        have HSR2 := Lib.hid ((HSD.out.far (p := ⟨gb, fr, none⟩) HGW.out (.bool true)).far (p := ⟨gb, tt, none⟩) HGW.out (.bool true))
        clear c0 c1 d0 d1 d2 ck
        refine wp_region_noPanic ?_
        refine wp_region_held_drew (S := (fun u : World => u.cell? ⟨w.heap.size, 1, none⟩ = some (.slice (some ⟨b2, off2, none⟩) g.es.length ce) ∧ u.cell? ⟨b2, off2 + k * 3, none⟩ = some (.int .i64 ty) ∧ u.cell? ⟨b2, off2 + k * 3 + 1, none⟩ = some (.int .i64 (fr : Int)) ∧ u.cell? ⟨b2, off2 + k * 3 + 2, none⟩ = some (.int .i64 (tt : Int)))) (by kernel_rfl) (HSW.out) (fun hHeld => ?_)
        have r1 := OwnB.cell HPN.out HOD.out HNF.out.1
        have r2 := OwnB.free HPN.out HOD.out fr
        have HR3 := Lib.hid (OwnB.cell (by rw [List.length_set]; exact HPN.out) HO1.out HNF.out.2)
        have HR4 := Lib.hid (OwnB.free (by rw [List.length_set]; exact HPN.out) HO1.out tt)
        generalize wr.drew = wd at *
        refine wpAnyH_take (i := 0) (v := ?_) (oper_at (r := _) rfl) (by kernel_rfl) (by kernel_rfl) (by kernel_rfl) (fun _ _ _ h => h) (Or.inl ⟨by rfl, ?_⟩) (by assumption) ?_
        rotate_left
        · intro w hSw; try dsimp only at hSw
          go_simp
          try with_reducible rfl
        try simp only [Act.put, List.setIfInBounds_toArray, List.set_cons_zero, List.set_cons_succ]
        refine wpAnyH_take (i := 1) (v := ?_) (oper_at (r := _) rfl) (by kernel_rfl) (by kernel_rfl) (by kernel_rfl) (fun _ _ _ h => h) (Or.inl ⟨by rfl, ?_⟩) (by assumption) ?_
        rotate_left
        · intro w hSw; try dsimp only at hSw
          go_simp
          try with_reducible rfl
        try simp only [Act.put, List.setIfInBounds_toArray, List.set_cons_zero, List.set_cons_succ]
        refine wpAnyH_take (i := 2) (v := ?_) (oper_at (r := _) rfl) (by kernel_rfl) (by kernel_rfl) (by kernel_rfl) (fun _ _ _ h => h) (Or.inl ⟨by rfl, ?_⟩) (by assumption) ?_
        rotate_left
        · intro w hSw; try dsimp only at hSw
          go_simp
          try with_reducible rfl
        try simp only [Act.put, List.setIfInBounds_toArray, List.set_cons_zero, List.set_cons_succ]
        refine wpAnyH_take (i := 3) (v := ?_) (oper_at (r := _) rfl) (by kernel_rfl) (by kernel_rfl) (by kernel_rfl) (fun _ _ _ h => h) (Or.inl ⟨by rfl, ?_⟩) (by assumption) ?_
        rotate_left
        · intro w hSw; try dsimp only at hSw
          go_simp
          try with_reducible rfl
        try simp only [Act.put, List.setIfInBounds_toArray, List.set_cons_zero, List.set_cons_succ]
        refine wpAnyH_take (i := 4) (v := ?_) (oper_at (r := _) rfl) (by kernel_rfl) (by kernel_rfl) (by kernel_rfl) (fun _ _ _ h => h) (Or.inl ⟨by rfl, ?_⟩) (by assumption) ?_
        rotate_left
        · intro w hSw; try dsimp only at hSw
          go_simp
          try with_reducible rfl
        try simp only [Act.put, List.setIfInBounds_toArray, List.set_cons_zero, List.set_cons_succ]
        refine wpAnyH_take (i := 5) (v := ?_) (oper_at (r := _) rfl) (by kernel_rfl) (by kernel_rfl) (by kernel_rfl) (fun _ _ _ h => h) (Or.inl ⟨by rfl, ?_⟩) (by assumption) ?_
        rotate_left
        · intro w hSw; try dsimp only at hSw
          go_simp
          try with_reducible rfl
        try simp only [Act.put, List.setIfInBounds_toArray, List.set_cons_zero, List.set_cons_succ]
        refine wpAnyH_take (i := 6) (v := ?_) (oper_at (r := _) rfl) (by kernel_rfl) (by kernel_rfl) (by kernel_rfl) (fun _ _ _ h => h) (Or.inl ⟨by rfl, ?_⟩) (by assumption) ?_
        rotate_left
        · intro w hSw; try dsimp only at hSw
          go_simp
          try with_reducible rfl
        try simp only [Act.put, List.setIfInBounds_toArray, List.set_cons_zero, List.set_cons_succ]
        refine wpAnyH_take (i := 7) (v := ?_) (oper_at (r := _) rfl) (by kernel_rfl) (by kernel_rfl) (by kernel_rfl) (fun _ _ _ h => h) (Or.inl ⟨by rfl, ?_⟩) (by assumption) ?_
        rotate_left
        · intro w hSw; try dsimp only at hSw
          go_simp
          try with_reducible rfl
        try simp only [Act.put, List.setIfInBounds_toArray, List.set_cons_zero, List.set_cons_succ]
        refine wpAnyH_take (i := 8) (v := ?_) (oper_at (r := _) rfl) (by kernel_rfl) (by kernel_rfl) (by kernel_rfl) (fun _ _ _ h => h) (Or.inl ⟨by rfl, ?_⟩) (by assumption) ?_
        rotate_left
        · intro w hSw; try dsimp only at hSw
          go_simp
          try with_reducible rfl
        try simp only [Act.put, List.setIfInBounds_toArray, List.set_cons_zero, List.set_cons_succ]
        refine wpAnyH_take (i := 9) (v := ?_) (oper_at (r := _) rfl) (by kernel_rfl) (by kernel_rfl) (by kernel_rfl) (fun _ _ _ h => h) (Or.inl ⟨by rfl, ?_⟩) (by assumption) ?_
        rotate_left
        · intro w hSw; try dsimp only at hSw
          go_simp
          try with_reducible rfl
        try simp only [Act.put, List.setIfInBounds_toArray, List.set_cons_zero, List.set_cons_succ]
        refine wpAnyH_take (i := 10) (v := ?_) (oper_at (r := _) rfl) (by kernel_rfl) (by kernel_rfl) (by kernel_rfl) (fun _ _ _ h => h) (Or.inl ⟨by rfl, ?_⟩) (by assumption) ?_
        rotate_left
        · intro w hSw; try dsimp only at hSw
          go_simp
          try with_reducible rfl
        try simp only [Act.put, List.setIfInBounds_toArray, List.set_cons_zero, List.set_cons_succ]
        refine wpAnyH_take (i := 11) (v := ?_) (oper_at (r := _) rfl) (by kernel_rfl) (by kernel_rfl) (by kernel_rfl) (fun _ _ _ h => h) (Or.inl ⟨by rfl, ?_⟩) (by assumption) ?_
        rotate_left
        · intro w hSw; try dsimp only at hSw
          go_simp
          try with_reducible rfl
        try simp only [Act.put, List.setIfInBounds_toArray, List.set_cons_zero, List.set_cons_succ]
        refine wpAnyH_take (i := 12) (v := ?_) (oper_at (r := _) rfl) (by kernel_rfl) (by kernel_rfl) (by kernel_rfl) (fun _ _ _ h => h) (Or.inl ⟨by rfl, ?_⟩) (by assumption) ?_
        rotate_left
        · intro w hSw; try dsimp only at hSw
          go_simp
          try with_reducible rfl
        try simp only [Act.put, List.setIfInBounds_toArray, List.set_cons_zero, List.set_cons_succ]
        refine wpAnyH_take (i := 13) (v := ?_) (oper_at (r := _) rfl) (by kernel_rfl) (by kernel_rfl) (by kernel_rfl) (fun _ _ _ h => h) (Or.inl ⟨by rfl, ?_⟩) (by assumption) ?_
        rotate_left
        · intro w hSw; try dsimp only at hSw
          go_simp
          try with_reducible rfl
        try simp only [Act.put, List.setIfInBounds_toArray, List.set_cons_zero, List.set_cons_succ]
        refine wpAnyH_take (i := 14) (v := ?_) (oper_at (r := _) rfl) (by kernel_rfl) (by kernel_rfl) (by kernel_rfl) (fun _ _ _ h => h) (Or.inl ⟨by rfl, ?_⟩) (by assumption) ?_
        rotate_left
        · intro w hSw; try dsimp only at hSw
          go_simp
          try with_reducible rfl
        try simp only [Act.put, List.setIfInBounds_toArray, List.set_cons_zero, List.set_cons_succ]
        refine wpAnyH_ready (rs := [15]) (by kernel_rfl) (by simp) ?_
        refine AllReadyH.cons (oper_at (r := _) rfl) (fun K hK => ?_) AllReadyH.nil
        go_simp
        refine hK.out _ _ (HSS.out _ _ _ HSW.out) (fun _ => ?_)
        clear hK K
        try simp only [Act.put, List.setIfInBounds_toArray, List.set_cons_zero, List.set_cons_succ]
        clear r1 r2
        have r3 := HR3.out
        have r4 := HR4.out
        refine wpAnyH_take (i := 16) (v := ?_) (oper_at (r := _) rfl) (by kernel_rfl) (by kernel_rfl) (by kernel_rfl) (fun _ _ _ h => h) (Or.inl ⟨by rfl, ?_⟩) (by assumption) ?_
        rotate_left
        · intro w hSw; try dsimp only at hSw
          go_simp
          try with_reducible rfl
        try simp only [Act.put, List.setIfInBounds_toArray, List.set_cons_zero, List.set_cons_succ]
        refine wpAnyH_ready (rs := [17]) (by kernel_rfl) (by simp) ?_
        refine AllReadyH.cons (oper_at (r := _) rfl) (fun K hK => ?_) AllReadyH.nil
        go_simp
        refine hK.out _ _ (HSS.out _ _ _ (HSS.out _ _ _ HSW.out)) (fun _ => ?_)
        clear hK K
        try simp only [Act.put, List.setIfInBounds_toArray, List.set_cons_zero, List.set_cons_succ]
        refine wpAnyH_done (by kernel_rfl) ?_ _
        refine NoPanic.normal ?_
        go_wp2_with fail
        go_roundw
        case rel => exact ⟨k + 1, HLT.out, by go_num, by rw [HY2.out]; exact .inl HO2.out, HSR2.out⟩
        case measure => exact HM.out
    · have e : k = eb.length := by omega
      subst e
      obtain ⟨A4, c4, e4, hr4, _⟩ := HZ.out.reads_cap
      injection e4 with e4 e45 e5
      subst e4 e5
      clear e45
      have HM1 := Lib.hid (show Calls Tryd.prog 81 #[.slice ao nb.length cap] wr _ from by have h := marked_any (P eb.length) ao cap wr (by rw [HLN.out]; omega) hr4; rw [HLN.out] at h; exact h)
      have HM2 := Lib.hid (fun (u : World) (hu : Below w.heap.size w u) => marked_any eb B b u hl2 ((HBB.out u hu).mono hu.size))
      have HLR := HLE.out
      rw [HLN.out] at HLR
      have HLR := Lib.hid HLR
      have HWR := Lib.hid HS.out.1
      generalize sel (fun i => (P eb.length).getD i false) nb.length = L1 at *
      generalize sel (fun i => eb.getD i false) eb.length = L2 at *
      clear hr4
      go_wp2_with fail
      refine HM1.out.mono ?_
      rintro e x2 ⟨v2, rfl, ho2, hb2⟩
      have HS2 := Lib.hid (HS.out.up hb2)
      have HO2 := Lib.hid ho2
      have HSZ : Hid (w.heap.size + 1 < wr.heap.size) := Lib.hid (heap_lt (HS.out.2 1 _ rfl))
      have HLE2 := Lib.hid hb2.size
      obtain ⟨A2, d2, rfl⟩ := OwnE.slice ho2
      clear ho2 hb2
      go_wp2_with fail
      refine (HM2.out _ HS2.out.1).mono ?_
      rintro e x3 ⟨v3, rfl, ho3, hb3⟩
      have HS3 := Lib.hid (HS2.out.up hb3)
      have HOO := Lib.hid (OwnE.below HO2.out hb3 (Nat.le_refl _))
      have HO3 := Lib.hid ho3
      obtain ⟨A3, d3, rfl⟩ := OwnE.slice ho3
      clear ho3 hb3 HO2
      obtain ⟨c2, c3⟩ := HS3.out.cell (i := 1) rfl
      have fr0 := HS3.out.free (i := 1) rfl 0
      have fr1 := HS3.out.free (i := 1) rfl 1
      go_wp2_with fail
      have HSX := Lib.hid (HS3.out.set (i := 1) rfl (.slice A2 L1.length d2) (.slice A3 L2.length d3))
      obtain ⟨r0, r1⟩ := HSX.out.cell (i := 1) rfl
      have hlt2 := HSZ.out
      have hle2 := HLE2.out
      refine bodyPost_ret (v := .agg #[.slice A2 L1.length d2, .slice A3 L2.length d3]) (by simp [results, Tryd.results49, go_sem, r0, r1]) rfl ?_
      have s1 : OwnI ((x3.setCell ⟨w.heap.size + 1, 0, none⟩ (.slice A2 L1.length d2)).setCell ⟨w.heap.size + 1, 1, none⟩ (.slice A3 L2.length d3)) _ _ _ := ownsRow_setCell_below (ownsRow_setCell_below HOO.out (by show w.heap.size + 1 < wr.heap.size; exact hlt2) _) (by show w.heap.size + 1 < wr.heap.size; exact hlt2) _
      have s2 : OwnI ((x3.setCell ⟨w.heap.size + 1, 0, none⟩ (.slice A2 L1.length d2)).setCell ⟨w.heap.size + 1, 1, none⟩ (.slice A3 L2.length d3)) _ _ _ := ownsRow_setCell_below (ownsRow_setCell_below HO3.out (by show w.heap.size + 1 < x2.heap.size; exact Nat.lt_of_lt_of_le hlt2 hle2) _) (by show w.heap.size + 1 < x2.heap.size; exact Nat.lt_of_lt_of_le hlt2 hle2) _
      exact ⟨⟨_, rfl, by rw [← HLR.out]; exact isM_of (g := ⟨L1, L2⟩) (isI_own s1) (isI_own s2)⟩, HSX.out.1⟩

end Go.Proofs.YthnhacncnhknnaaDoor

/-
  Parts of graphs, the reference: Made. Printed by mkr7.py.
-/
namespace Go.Proofs.YthnhacncnhknnaaDoor
open Go.RowKit Go.Shelf

theorem step_make_B {w : World} {ops : Array Oper} {o : Oper} {a : Act} {K : Act → World → Prop} {Q : Exit → Act → World → Prop} {X : Prop} (hgd : o.guard = none) (l c : Operand)
    (ho : o.op = Op.makeSlice 74 l c) (base n : Nat) (hl : a.eval l = .int .i64 (n : Int)) (hc : a.eval c = .int .i64 (n : Int)) (hn : n ≤ 1000000) (hbase : base ≤ w.heap.size)
    (hK : ∀ w', OwnB w' base (.slice (some ⟨w.heap.size, 0, none⟩) n n) (List.replicate n false) → Below w.heap.size w w' → w.heap.size < w'.heap.size → K (a.put o.dst (.slice (some ⟨w.heap.size, 0, none⟩) n n)) w') : if Region.wanted o (yielded ops a.tmps) = true then Oper.wp Tryd.prog o a w K Q else X := by
  have hw : Region.wanted o (yielded ops a.tmps) = true := by simp [Region.wanted, hgd]
  rw [if_pos hw]
  obtain ⟨i0, hi, hz0, hz1, hz2⟩ := info_parts infoBo
  obtain ⟨w', hrun, r1, r2⟩ := run_make_full (P := Tryd.prog) w base 74 4 i0 (.bool false) 1 Tryd.underlying74 hi hz0 hz1 .i64 .i64 n (by rw [hz2]; omega) (by unfold maxLen; omega) hbase
  have h3 : OwnB w' base (.slice (some ⟨w.heap.size, 0, none⟩) n n) (List.replicate n false) := by
    unfold OwnB OwnE
    rw [cellsE_bo, List.length_replicate]
    have e : (madeCells (Value.bool false).cells (n * 1)).toList = (List.replicate n false).map Value.bool := by
      rw [Nat.mul_one]
      refine (toList_madeCells_one _ _).trans ?_
      rw [List.map_replicate]
    rw [e] at r1
    exact r1
  unfold Oper.wp
  simp [execOp, ho, hl, hc, hrun, Result.andThen]
  exact hK w' h3 ((Below.refl _ w).grown r2 (Nat.le_refl _) (by intro k hk; cases hk)) (OwnE.lt h3 _ rfl).2
theorem least_ext {g : Gr} {nb nb' eb eb' : Nat → Bool} (h1 : ∀ i, i < g.ns.length → nb i = nb' i) (h2 : ∀ e, e < g.es.length → eb e = eb' e) : leastP g nb eb = leastP g nb' eb' := by
  unfold leastP
  have ht : ∀ i, touch g eb i = touch g eb' i := fun i => by
    rw [Bool.eq_iff_iff, touch_iff, touch_iff]
    constructor
    · rintro ⟨e, a, b, c⟩; exact ⟨e, a, by rw [← h2 e a]; exact b, c⟩
    · rintro ⟨e, a, b, c⟩; exact ⟨e, a, by rw [h2 e a]; exact b, c⟩
  congr 1
  · exact sel_ext fun i hi => by rw [h1 i hi, ht]
  · exact sel_ext fun e he => h2 e he
def madeP (g : Gr) (set : Nat) : Mo := leastP g (fun i => set.testBit (i % 64)) (fun e => set.testBit ((g.ns.length + e) % 64))
theorem bit_u64 (set k : Nat) (hs : set < 18446744073709551616) : (bits .and .u64 ((set : Int) / 2 ^ k) 1 == 1) = set.testBit k := by
  have e : (set : Int) / 2 ^ k = ((set / 2 ^ k : Nat) : Int) := by rw [Int.natCast_ediv]; simp
  have hm : set / 2 ^ k < 18446744073709551616 := Nat.lt_of_le_of_lt (Nat.div_le_self _ _) hs
  rw [e, Nat.testBit_eq_decide_div_mod_eq]
  generalize set / 2 ^ k = m at *
  rw [and_one_u64 _ (by omega) (by omega)]
  rw [Bool.eq_iff_iff, beq_iff_eq, decide_eq_true_iff]
  omega

set_option maxRecDepth 100000 in
set_option maxHeartbeats 4000000 in
theorem made7_any (g : Gr) (set : Nat) (An : Option Addr) (cn : Nat) (Ae : Option Addr) (ce : Nat) (w : World) (hv : validE g = 0) (hs : set < 18446744073709551616) (hg : GrAt w An cn Ae ce g) :
    Calls Tryd.prog 17 #[gval An g.ns.length cn Ae g.es.length ce, .int .u64 (set : Int)] w fun e w' => (∃ v, e = .returned v ∧ IsM w' v (madeP g set)) ∧ Below w.heap.size w w' := by
  have hS0 : SR w [(.slice An g.ns.length cn, .slice Ae g.es.length ce, 25), (.slice none 0 0, .slice none 0 0, 27)] ((w.alloc (.cells #[.slice An g.ns.length cn, .slice Ae g.es.length ce] 25)).alloc (.cells #[.slice none 0 0, .slice none 0 0] 27)) := SR.push (SR.push (SR.nil w) rfl _ _ _) (by simp) _ _ _
  obtain ⟨v1, v2, _⟩ := valid_zero hv
  have HLS := Lib.hid (fun (nb eb : List Bool) (h1 : nb.length = g.ns.length) (h2 : eb.length = g.es.length) A a B b (u : World) (hu : Below w.heap.size w u) (r1 : Bos u u.heap.size A nb) (r2 : Bos u u.heap.size B eb) => least7_any g nb eb An cn Ae ce A a B b u hv h1 h2 (hg.up hu) r1 r2)
  have HB1 := Lib.hid (fun k => bit_u64 set k hs)
  have HR : Hid (leastP g (fun i => (coll (fun i => [set.testBit (i % 64)]) g.ns.length).getD i false) (fun e => (coll (fun e => [set.testBit ((g.ns.length + e) % 64)]) g.es.length).getD e false) = madeP g set) := Lib.hid (least_ext (fun i hi => coll_getD _ hi _) (fun e he => coll_getD _ he _))
  have HS0 := Lib.hid hS0
  clear hS0 hv hs hg
  generalize madeP g set = R at *
  go_enter Tryd.func17, Tryd.ntmps17
  go_upto_region 1 with fail
  generalize (w.alloc (.cells #[.slice An g.ns.length cn, .slice Ae g.es.length ce] 25)).alloc (.cells #[.slice none 0 0, .slice none 0 0] 27) = w1 at *
  obtain ⟨c0, c1⟩ := HS0.out.cell (i := 0) rfl
  simp only [Nat.add_zero] at c0 c1
  have HM : Hid (∀ u, Below w1.drew.heap.size w1.drew u → (fun u : World => u.cell? ⟨w.heap.size, 0, none⟩ = some (.slice An g.ns.length cn) ∧ u.cell? ⟨w.heap.size, 1, none⟩ = some (.slice Ae g.es.length ce)) u) := Lib.hid fun u hu => ⟨cell_up hu c0, cell_up hu c1⟩
  have HSD := Lib.hid (HS0.out.up (below_d w1))
  have WD0 := Lib.hid (Below.refl w1.drew.heap.size w1.drew)
  clear c0 c1 HS0
  go_cut [5, 6] (fun x y wc => ∃ gn gm : Nat, x = .slice (some ⟨gn, 0, none⟩) g.ns.length g.ns.length ∧ y = .slice (some ⟨gm, 0, none⟩) g.es.length g.es.length ∧ w.heap.size + 2 ≤ gn ∧ w.heap.size + 2 ≤ gm ∧ gn ≠ gm ∧ OwnB wc gn (.slice (some ⟨gn, 0, none⟩) g.ns.length g.ns.length) (List.replicate g.ns.length false) ∧ OwnB wc gm (.slice (some ⟨gm, 0, none⟩) g.es.length g.es.length) (List.replicate g.es.length false) ∧ SR w [(.slice An g.ns.length cn, .slice Ae g.es.length ce, 25), (.slice none 0 0, .slice none 0 0, 27)] wc)
  case first =>
    go_wp2_with fail
    refine wp_region_noPanic ?_
    refine wp_region_held_drew (S := (fun u : World => u.cell? ⟨w.heap.size, 0, none⟩ = some (.slice An g.ns.length cn) ∧ u.cell? ⟨w.heap.size, 1, none⟩ = some (.slice Ae g.es.length ce))) (by kernel_rfl) (HM.out _ WD0.out) (fun hHeld => ?_)
    have HGZ : Hid (w.heap.size + 2 ≤ w1.drew.heap.size) := Lib.hid (heap_lt (HSD.out.2 1 _ rfl))
    generalize w1.drew = wd at *
    refine wpAnyH_take (i := 0) (v := ?_) (oper_at (r := _) rfl) (by kernel_rfl) (by kernel_rfl) (by kernel_rfl) (fun _ _ _ h => h) (Or.inl ⟨by rfl, ?_⟩) (by assumption) ?_
    rotate_left
    · intro w hSw; try dsimp only at hSw
      go_simp
      try with_reducible rfl
    try simp only [Act.put, List.setIfInBounds_toArray, List.set_cons_zero, List.set_cons_succ]
    refine wpAnyH_take (i := 1) (v := ?_) (oper_at (r := _) rfl) (by kernel_rfl) (by kernel_rfl) (by kernel_rfl) (fun _ _ _ h => h) (Or.inl ⟨by rfl, ?_⟩) (by assumption) ?_
    rotate_left
    · intro w hSw; try dsimp only at hSw
      go_simp
      try with_reducible rfl
    try simp only [Act.put, List.setIfInBounds_toArray, List.set_cons_zero, List.set_cons_succ]
    refine wpAnyH_take (i := 2) (v := ?_) (oper_at (r := _) rfl) (by kernel_rfl) (by kernel_rfl) (by kernel_rfl) (fun _ _ _ h => h) (Or.inl ⟨by rfl, ?_⟩) (by assumption) ?_
    rotate_left
    · intro w hSw; try dsimp only at hSw
      go_simp
      try with_reducible rfl
    try simp only [Act.put, List.setIfInBounds_toArray, List.set_cons_zero, List.set_cons_succ]
    refine wpAnyH_take (i := 4) (v := ?_) (oper_at (r := _) rfl) (by kernel_rfl) (by kernel_rfl) (by kernel_rfl) (fun _ _ _ h => h) (Or.inl ⟨by rfl, ?_⟩) (by assumption) ?_
    rotate_left
    · intro w hSw; try dsimp only at hSw
      go_simp
      try with_reducible rfl
    try simp only [Act.put, List.setIfInBounds_toArray, List.set_cons_zero, List.set_cons_succ]
    refine wpAnyH_take (i := 5) (v := ?_) (oper_at (r := _) rfl) (by kernel_rfl) (by kernel_rfl) (by kernel_rfl) (fun _ _ _ h => h) (Or.inl ⟨by rfl, ?_⟩) (by assumption) ?_
    rotate_left
    · intro w hSw; try dsimp only at hSw
      go_simp
      try with_reducible rfl
    try simp only [Act.put, List.setIfInBounds_toArray, List.set_cons_zero, List.set_cons_succ]
    refine wpAnyH_take (i := 6) (v := ?_) (oper_at (r := _) rfl) (by kernel_rfl) (by kernel_rfl) (by kernel_rfl) (fun _ _ _ h => h) (Or.inl ⟨by rfl, ?_⟩) (by assumption) ?_
    rotate_left
    · intro w hSw; try dsimp only at hSw
      go_simp
      try with_reducible rfl
    try simp only [Act.put, List.setIfInBounds_toArray, List.set_cons_zero, List.set_cons_succ]
    refine wpAnyH_ready (rs := [3, 7]) (by kernel_rfl) (by simp) ?_
    refine (AllReadyH.cons (oper_at (r := _) rfl) (fun K hK => ?_) (AllReadyH.cons (oper_at (r := _) rfl) (fun K hK => ?_) AllReadyH.nil))
    · skip
      refine step_make_B (by rfl) _ _ (by rfl) wd.heap.size g.ns.length (by rfl) (by rfl) (by omega) (Nat.le_refl _) ?_
      intro x2 ho2 hb2 hlt2
      have HO2 := Lib.hid ho2
      have HB2 := Lib.hid hb2
      have HL2 := Lib.hid hlt2
      clear ho2 hb2 hlt2
      refine hK.out _ _ (HM.out _ HB2.out) (fun _ => ?_)
      clear hK K
      try simp only [Act.put, List.setIfInBounds_toArray, List.set_cons_zero, List.set_cons_succ]
      refine wpAnyH_take (i := 8) (v := ?_) (oper_at (r := _) rfl) (by kernel_rfl) (by kernel_rfl) (by kernel_rfl) (fun _ _ _ h => h) (Or.inl ⟨by rfl, ?_⟩) (by assumption) ?_
      rotate_left
      · intro w hSw; try dsimp only at hSw
        go_simp
        try with_reducible rfl
      try simp only [Act.put, List.setIfInBounds_toArray, List.set_cons_zero, List.set_cons_succ]
      refine wpAnyH_ready (rs := [7]) (by kernel_rfl) (by simp) ?_
      refine AllReadyH.cons (oper_at (r := _) rfl) (fun K hK => ?_) AllReadyH.nil
      refine step_make_B (by rfl) _ _ (by rfl) x2.heap.size g.es.length (by rfl) (by rfl) (by omega) (Nat.le_refl _) ?_
      intro x3 ho3 hb3 hlt3
      have HO3 := Lib.hid ho3
      have HB3 := Lib.hid (HB2.out.trans (hb3.mono HB2.out.size))
      have HO4 := Lib.hid (OwnE.below HO2.out hb3 (Nat.le_refl _))
      clear ho3 hb3 hlt3
      refine hK.out _ _ (HM.out _ HB3.out) (fun _ => ?_)
      clear hK K
      try simp only [Act.put, List.setIfInBounds_toArray, List.set_cons_zero, List.set_cons_succ]
      refine wpAnyH_take (i := 9) (v := ?_) (oper_at (r := _) rfl) (by kernel_rfl) (by kernel_rfl) (by kernel_rfl) (fun _ _ _ h => h) (Or.inl ⟨by rfl, ?_⟩) (by assumption) ?_
      rotate_left
      · intro w hSw; try dsimp only at hSw
        go_simp
        try with_reducible rfl
      try simp only [Act.put, List.setIfInBounds_toArray, List.set_cons_zero, List.set_cons_succ]
      refine wpAnyH_done (by kernel_rfl) ?_ _
      refine NoPanic.normal ?_
      go_wp2_with fail
      go_meet
      have q1 := HGZ.out
      have q2 := HL2.out
      exact ⟨wd.heap.size, x2.heap.size, rfl, rfl, q1, by omega, by omega, HO4.out, HO3.out, HSD.out.up HB3.out⟩
    · skip
      refine step_make_B (by rfl) _ _ (by rfl) wd.heap.size g.es.length (by rfl) (by rfl) (by omega) (Nat.le_refl _) ?_
      intro x2 ho2 hb2 hlt2
      have HO2 := Lib.hid ho2
      have HB2 := Lib.hid hb2
      have HL2 := Lib.hid hlt2
      clear ho2 hb2 hlt2
      refine hK.out _ _ (HM.out _ HB2.out) (fun _ => ?_)
      clear hK K
      try simp only [Act.put, List.setIfInBounds_toArray, List.set_cons_zero, List.set_cons_succ]
      refine wpAnyH_ready (rs := [3]) (by kernel_rfl) (by simp) ?_
      refine AllReadyH.cons (oper_at (r := _) rfl) (fun K hK => ?_) AllReadyH.nil
      refine step_make_B (by rfl) _ _ (by rfl) x2.heap.size g.ns.length (by rfl) (by rfl) (by omega) (Nat.le_refl _) ?_
      intro x3 ho3 hb3 hlt3
      have HO3 := Lib.hid ho3
      have HB3 := Lib.hid (HB2.out.trans (hb3.mono HB2.out.size))
      have HO4 := Lib.hid (OwnE.below HO2.out hb3 (Nat.le_refl _))
      clear ho3 hb3 hlt3
      refine hK.out _ _ (HM.out _ HB3.out) (fun _ => ?_)
      clear hK K
      try simp only [Act.put, List.setIfInBounds_toArray, List.set_cons_zero, List.set_cons_succ]
      refine wpAnyH_take (i := 8) (v := ?_) (oper_at (r := _) rfl) (by kernel_rfl) (by kernel_rfl) (by kernel_rfl) (fun _ _ _ h => h) (Or.inl ⟨by rfl, ?_⟩) (by assumption) ?_
      rotate_left
      · intro w hSw; try dsimp only at hSw
        go_simp
        try with_reducible rfl
      try simp only [Act.put, List.setIfInBounds_toArray, List.set_cons_zero, List.set_cons_succ]
      refine wpAnyH_take (i := 9) (v := ?_) (oper_at (r := _) rfl) (by kernel_rfl) (by kernel_rfl) (by kernel_rfl) (fun _ _ _ h => h) (Or.inl ⟨by rfl, ?_⟩) (by assumption) ?_
      rotate_left
      · intro w hSw; try dsimp only at hSw
        go_simp
        try with_reducible rfl
      try simp only [Act.put, List.setIfInBounds_toArray, List.set_cons_zero, List.set_cons_succ]
      refine wpAnyH_done (by kernel_rfl) ?_ _
      refine NoPanic.normal ?_
      go_wp2_with fail
      go_meet
      have q1 := HGZ.out
      have q2 := HL2.out
      exact ⟨x2.heap.size, wd.heap.size, rfl, rfl, by omega, q1, by omega, HO3.out, HO4.out, HSD.out.up HB3.out⟩
  case rest =>
    obtain ⟨gn, gm, rfl, rfl, hgn, hgm, hne, hon, hom, hsr⟩ := hcut
    have HON := Lib.hid hon
    have HOM := Lib.hid hom
    have HS := Lib.hid hsr
    clear hon hom hsr HM HSD WD0
    have HGN := Lib.hid hgn
    have HGM := Lib.hid hgm
    have HNE := Lib.hid hne
    clear hgn hgm hne
    go_wp2_with fail
    go_loopw [7] (fun x wr => ∃ k : Nat, k ≤ g.ns.length ∧ x = .int .i64 (k : Int) ∧ OwnB wr gn (.slice (some ⟨gn, 0, none⟩) g.ns.length g.ns.length) (pad (fun i => set.testBit (i % 64)) false g.ns.length k) ∧ OwnB wr gm (.slice (some ⟨gm, 0, none⟩) g.es.length g.es.length) (List.replicate g.es.length false) ∧ SR w [(.slice An g.ns.length cn, .slice Ae g.es.length ce, 25), (.slice none 0 0, .slice none 0 0, 27)] wr) (fun x _ => g.ns.length - (intOf x).toNat)
    case atStart => exact ⟨0, Nat.zero_le _, rfl, by rw [pad_zero]; exact HON.out, HOM.out, HS.out⟩
    case round =>
      clear HON HOM HS
      obtain ⟨k, hk, rfl, hon, hom, hsr⟩ := hrel
      have HON := Lib.hid hon
      have HOM := Lib.hid hom
      have HS := Lib.hid hsr
      clear hon hom hsr
      by_cases hlt : k < g.ns.length
      · have i0 : (0 : Int) ≤ (k : Int) := by omega
        have i1 : (k : Int) < (g.ns.length : Int) := by omega
        have i2 : ((k : Int)).toNat = k := by omega
        have HLT := Lib.hid hlt
        have HM : Hid (g.ns.length - ((k : Int) + 1).toNat < g.ns.length - ((k : Int)).toNat) := Lib.hid (by omega)
        have HPL : Hid (g.ns.length = (pad (fun i => set.testBit (i % 64)) false g.ns.length k).length) := Lib.hid (pad_len _ _ hk).symm
        have r1 := OwnB.cell HPL.out HON.out hlt
        have r2 := OwnB.free HPL.out HON.out k
        have hst := OwnB.set HPL.out HON.out k (set.testBit (k % 64))
        rw [pad_set (fun i => set.testBit (i % 64)) false hlt] at hst
        have HST := Lib.hid hst.1
        have HST2 := Lib.hid (OwnE.kept HOM.out hst.2 (.inr (by show some gm ≠ some gn; intro e; injection e with e; exact HNE.out e.symm)))
        have HS3 := Lib.hid (HS.out.far (p := ⟨gn, k, none⟩) HGN.out (.bool (set.testBit (k % 64))))
        have hbt := HB1.out (k % 64)
        generalize hT : set.testBit (k % 64) = T at *
        clear hst hT hlt
        go_wp2_with fail
        go_roundw
        case rel => exact ⟨k + 1, HLT.out, by go_num, HST.out, HST2.out, HS3.out⟩
        case measure => exact HM.out
      · have e : k = g.ns.length := by omega
        subst e
        have hon := HON.out
        rw [pad_all] at hon
        have HON := Lib.hid hon
        have HCL := Lib.hid (coll_len (fun i => set.testBit (i % 64)) g.ns.length)
        clear hon
        generalize hnb : coll (fun i => [set.testBit (i % 64)]) g.ns.length = nb at *
        clear hnb
        go_wp2_with fail
        go_loopw [8] (fun x wr => ∃ k : Nat, k ≤ g.es.length ∧ x = .int .i64 (k : Int) ∧ OwnB wr gm (.slice (some ⟨gm, 0, none⟩) g.es.length g.es.length) (pad (fun e => set.testBit ((g.ns.length + e) % 64)) false g.es.length k) ∧ OwnB wr gn (.slice (some ⟨gn, 0, none⟩) g.ns.length g.ns.length) nb ∧ SR w [(.slice An g.ns.length cn, .slice Ae g.es.length ce, 25), (.slice none 0 0, .slice none 0 0, 27)] wr) (fun x _ => g.es.length - (intOf x).toNat)
        case atStart => exact ⟨0, Nat.zero_le _, rfl, by rw [pad_zero]; exact HOM.out, HON.out, HS.out⟩
        case round =>
          clear HON HOM HS
          obtain ⟨k, hk, rfl, hom, hon, hsr⟩ := hrel
          have HON := Lib.hid hon
          have HOM := Lib.hid hom
          have HS := Lib.hid hsr
          clear hon hom hsr
          by_cases hlt : k < g.es.length
          · have i0 : (0 : Int) ≤ (k : Int) := by omega
            have i1 : (k : Int) < (g.es.length : Int) := by omega
            have i2 : ((k : Int)).toNat = k := by omega
            have HLT := Lib.hid hlt
            have HM : Hid (g.es.length - ((k : Int) + 1).toNat < g.es.length - ((k : Int)).toNat) := Lib.hid (by omega)
            have HPL : Hid (g.es.length = (pad (fun e => set.testBit ((g.ns.length + e) % 64)) false g.es.length k).length) := Lib.hid (pad_len _ _ hk).symm
            have r1 := OwnB.cell HPL.out HOM.out hlt
            have r2 := OwnB.free HPL.out HOM.out k
            have hst := OwnB.set HPL.out HOM.out k (set.testBit ((g.ns.length + k) % 64))
            rw [pad_set (fun e => set.testBit ((g.ns.length + e) % 64)) false hlt] at hst
            obtain ⟨q, hq⟩ : ∃ q : Nat, q = (g.ns.length + k) % 64 := ⟨_, rfl⟩
            rw [← hq] at hst
            have e0 : ((g.ns.length : Int) + (k : Int)) % 64 = (q : Int) := by omega
            have HST := Lib.hid hst.1
            have HST2 := Lib.hid (OwnE.kept HON.out hst.2 (.inr (by show some gn ≠ some gm; intro e; injection e with e; exact HNE.out e)))
            have HS3 := Lib.hid (HS.out.far (p := ⟨gm, k, none⟩) HGM.out (.bool (set.testBit q)))
            have hbt := HB1.out q
            have q0 : (0 : Int) ≤ (q : Int) := by omega
            generalize hT : set.testBit q = T at *
            clear hst hT hlt hq
            go_wp2_with fail
            go_roundw
            case rel => exact ⟨k + 1, HLT.out, by go_num, HST.out, HST2.out, HS3.out⟩
            case measure => exact HM.out
          · have e : k = g.es.length := by omega
            subst e
            have hom := HOM.out
            rw [pad_all] at hom
            have hc2 := coll_len (fun e => set.testBit ((g.ns.length + e) % 64)) g.es.length
            generalize coll (fun e => [set.testBit ((g.ns.length + e) % 64)]) g.es.length = eb at *
            obtain ⟨A4, c4, e4, hr4⟩ := OwnE.reads HON.out
            obtain ⟨A5, c5, e5, hr5⟩ := OwnE.reads hom
            injection e4 with e4 e41 e42
            injection e5 with e5 e51 e52
            have h4 : Bos wr wr.heap.size (some ⟨gn, 0, none⟩) nb := by rw [e4]; exact hr4
            have h5 : Bos wr wr.heap.size (some ⟨gm, 0, none⟩) eb := by rw [e5]; exact hr5
            have HLQ := Lib.hid (show Calls Tryd.prog 49 #[gval An g.ns.length cn Ae g.es.length ce, .slice (some ⟨gn, 0, none⟩) g.ns.length g.ns.length, .slice (some ⟨gm, 0, none⟩) g.es.length g.es.length] wr _ from by have h := HLS.out nb eb HCL.out hc2 (some ⟨gn, 0, none⟩) g.ns.length (some ⟨gm, 0, none⟩) g.es.length wr HS.out.1 h4 h5; rw [HCL.out, hc2, HR.out] at h; exact h)
            clear e4 e41 e42 e5 e51 e52 hr4 hr5 h4 h5 hc2 hom
            obtain ⟨c0, c1⟩ := HS.out.cell (i := 0) rfl
            simp only [Nat.add_zero] at c0 c1
            go_wp2_with fail
            refine HLQ.out.mono ?_
            rintro e x2 ⟨⟨v, rfl, Xn, xn, Xe, xe, rfl, hx⟩, hb⟩
            have HS2 := Lib.hid (HS.out.up hb)
            have HX := Lib.hid hx
            clear hb hx c0 c1
            obtain ⟨c2, c3⟩ := HS2.out.cell (i := 1) rfl
            have fr0 := HS2.out.free (i := 1) rfl 0
            have fr1 := HS2.out.free (i := 1) rfl 1
            go_wp2_with fail
            have HSX := Lib.hid (HS2.out.set (i := 1) rfl (.slice Xn R.ns.length xn) (.slice Xe R.es.length xe))
            obtain ⟨r0, r1⟩ := HSX.out.cell (i := 1) rfl
            have hbx : BX (w.heap.size + 1) (.slice none 0 0) (.slice none 0 0) 27 x2 := HS2.out.2 1 _ rfl
            refine bodyPost_ret (v := gval Xn R.ns.length xn Xe R.es.length xe) (by simp [results, Tryd.results17, go_sem, r0, r1]) rfl ?_
            exact ⟨⟨_, rfl, Xn, xn, Xe, xe, rfl, ⟨ints_set' HX.out.ns hbx _ _, ints_set' HX.out.es hbx _ _, HX.out.cn, HX.out.ce⟩⟩, HSX.out.1⟩

end Go.Proofs.YthnhacncnhknnaaDoor

/-
  Parts of graphs, the reference: Boundary. Printed by mkr8.py.
-/
namespace Go.Proofs.YthnhacncnhknnaaDoor
open Go.RowKit Go.Shelf

theorem wpList_make_B {w : World} {ops : Array Oper} {rest : List Oper} {o : Oper} {a : Act} {Q : Exit → Act → World → Prop} (hgd : o.guard = none) (l c : Operand)
    (ho : o.op = Op.makeSlice 74 l c) (base n : Nat) (hl : a.eval l = .int .i64 (n : Int)) (hc : a.eval c = .int .i64 (n : Int)) (hn : n ≤ 1000000) (hbase : base ≤ w.heap.size)
    (hK : ∀ w', OwnB w' base (.slice (some ⟨w.heap.size, 0, none⟩) n n) (List.replicate n false) → Below w.heap.size w w' → w.heap.size < w'.heap.size → wpList Tryd.prog ops Q rest (a.put o.dst (.slice (some ⟨w.heap.size, 0, none⟩) n n)) w') : wpList Tryd.prog ops Q (o :: rest) a w := by
  obtain ⟨i0, hi, hz0, hz1, hz2⟩ := info_parts infoBo
  refine wpList_make_full w hgd l c 74 ho base 4 i0 (.bool false) 1 Tryd.underlying74 hi hz0 hz1 .i64 .i64 _ _ n hl hc rfl rfl (by rw [hz2]; omega) (by unfold maxLen; omega) hbase ?_
  intro w' h1 h2
  have h3 : OwnB w' base (.slice (some ⟨w.heap.size, 0, none⟩) n n) (List.replicate n false) := by
    unfold OwnB OwnE
    rw [cellsE_bo, List.length_replicate]
    have e : (madeCells (Value.bool false).cells (n * 1)).toList = (List.replicate n false).map Value.bool := by
      rw [Nat.mul_one]
      refine (toList_madeCells_one _ _).trans ?_
      rw [List.map_replicate]
    rw [e] at h1
    exact h1
  exact hK w' h3 ((Below.refl _ w).grown h2 (Nat.le_refl _) (by intro k hk; cases hk)) (OwnE.lt h3 _ rfl).2
theorem bnd_sel (g : Gr) (p : Mo) : sel (fun i => mrg true (inB p.ns i) (inB (sel (fun i => (tchTo g (List.replicate g.ns.length false) (fun e => !inB p.es e) g.es.length).getD i false) g.ns.length) i)) g.ns.length = bndL g p := by
  unfold bndL
  refine sel_ext fun i hi => ?_
  rw [mrg_and]
  congr 1
  rw [Bool.eq_iff_iff, inB_iff, sel_has, tchTo_at (by rw [List.length_replicate]; exact hi), touch_iff]
  have h0 : ¬ (List.replicate g.ns.length false).getD i false = true := by rw [List.getD_eq_getElem?_getD, List.getElem?_replicate, if_pos hi]; simp
  exact ⟨fun h => h.2.resolve_left h0, fun h => ⟨hi, .inr h⟩⟩

end Go.Proofs.YthnhacncnhknnaaDoor

/-
  Parts of graphs, the reference: Close. Printed by mkr9.py.
-/
namespace Go.Proofs.YthnhacncnhknnaaDoor
open Go.RowKit Go.Shelf

/-! marks of a list's numbers -/
def mrkTo (n : Nat) (l : List Int) : Nat → List Bool
  | 0 => List.replicate n false
  | k + 1 => (mrkTo n l k).set (l.getD k 0).toNat true
theorem mrkTo_len (n : Nat) (l : List Int) (k : Nat) : (mrkTo n l k).length = n := by
  induction k with
  | zero => simp [mrkTo]
  | succ k ih => simp [mrkTo, ih]
theorem mrkTo_at {n : Nat} {l : List Int} (h : ∀ x ∈ l, 0 ≤ x ∧ x < n) {k i : Nat} (hk : k ≤ l.length) (hi : i < n) : (mrkTo n l k).getD i false = true ↔ (i : Int) ∈ l.take k := by
  induction k with
  | zero => simp [mrkTo, List.getD_eq_getElem?_getD, hi]
  | succ k ih =>
    have hr := h _ (getD_mem (d := (0 : Int)) (show k < l.length by omega))
    simp only [mrkTo]
    rw [set_getD (by rw [mrkTo_len]; exact hi), Bool.or_eq_true, ih (by omega), decide_eq_true_iff, ← take_next (show k < l.length by omega), List.mem_append, List.mem_singleton]
    constructor
    · rintro (h | h)
      · exact .inl h
      · exact .inr (by omega)
    · rintro (h | h)
      · exact .inl h
      · exact .inr (by omega)
theorem mrk_all {n : Nat} {l : List Int} (h : ∀ x ∈ l, 0 ≤ x ∧ x < n) {i : Nat} (hi : i < n) : (mrkTo n l l.length).getD i false = inB l i := by
  rw [Bool.eq_iff_iff, mrkTo_at h (Nat.le_refl _) hi, List.take_length, inB_iff]
theorem rng_hit {l : List Int} {n k : Nat} (h : idxB (l.getD k 0) n = false) : rngAt l n k = 6 := by unfold rngAt; rw [h]; rfl
theorem rng_pass {l : List Int} {n k : Nat} (h : idxB (l.getD k 0) n = true) : rngAt l n k = 0 := if_pos h

set_option maxRecDepth 100000 in
set_option maxHeartbeats 4000000 in
theorem close7_any : CloseC 15 := by
  intro g vs xs An cn Ae ce A a B b w hg hA hB la lb
  have hS0 : SR w [(.slice An g.ns.length cn, .slice Ae g.es.length ce, 25), (.slice none 0 0, .slice none 0 0, 27)] ((w.alloc (.cells #[.slice An g.ns.length cn, .slice Ae g.es.length ce] 25)).alloc (.cells #[.slice none 0 0, .slice none 0 0] 27)) := SR.push (SR.push (SR.nil w) rfl _ _ _) (by simp) _ _ _
  have HV := Lib.hid (fun (u : World) (hu : Below w.heap.size w u) => validR_any g An cn Ae ce u (hg.up hu))
  have HVV := Lib.hid (fun (hv : validE g = 0) => valid_zero hv)
  have HVX := Lib.hid (fun (u : World) (hu : Below w.heap.size w u) => Reads.below hA hu)
  have HXX := Lib.hid (fun (u : World) (hu : Below w.heap.size w u) => Reads.below hB hu)
  have HLS := Lib.hid (fun (hv : validE g = 0) (nb eb : List Bool) (h1 : nb.length = g.ns.length) (h2 : eb.length = g.es.length) A a B b (u : World) (hu : Below w.heap.size w u) (r1 : Bos u u.heap.size A nb) (r2 : Bos u u.heap.size B eb) => least7_any g nb eb An cn Ae ce A a B b u hv h1 h2 (hg.up hu) r1 r2)
  have HE1 : Hid (rngE vs g.ns.length = fstN (rngAt vs g.ns.length) 0 (vs.length - 0)) := Lib.hid rfl
  have HE2 : Hid (rngE xs g.es.length = fstN (rngAt xs g.es.length) 0 (xs.length - 0)) := Lib.hid rfl
  have HRX : Hid (validE g = 0 → rngE vs g.ns.length = 0 → rngE xs g.es.length = 0 → leastP g (fun i => (mrkTo g.ns.length vs vs.length).getD i false) (fun e => (mrkTo g.es.length xs xs.length).getD e false) = closeP g vs xs) := Lib.hid fun h1 h2 h3 => by
    unfold closeP
    rw [if_pos (close_zero.2 ⟨h1, rng_iff.1 h2, rng_iff.1 h3⟩)]
    exact least_ext (fun i hi => mrk_all (rng_iff.1 h2) hi) (fun e he => mrk_all (rng_iff.1 h3) he)
  have HCN : Hid (closeE g vs xs ≠ 0 → closeP g vs xs = noM) := Lib.hid fun h => if_neg h
  have HCE : Hid (closeE g vs xs = if validE g ≠ 0 then validE g else if rngE vs g.ns.length ≠ 0 then rngE vs g.ns.length else rngE xs g.es.length) := Lib.hid rfl
  have HS0 := Lib.hid hS0
  clear hS0 hg hA hB
  generalize closeP g vs xs = R at *
  generalize closeE g vs xs = E at *
  generalize rngE vs g.ns.length = e1 at *
  generalize rngE xs g.es.length = e2 at *
  refine givesM ?_
  go_enter Tryd.func15, Tryd.ntmps15
  obtain ⟨c0, c1⟩ := HS0.out.cell (i := 0) rfl
  simp only [Nat.add_zero] at c0 c1
  go_wp2_with fail
  refine (HV.out _ HS0.out.1).mono ?_
  rintro e w1 ⟨rfl, hb1⟩
  have HS1 := Lib.hid (HS0.out.up hb1)
  clear hb1 HS0 HV c0 c1
  by_cases h1 : validE g = 0
  case neg =>
    have HEE := Lib.hid (show E = validE g by rw [HCE.out, if_pos h1])
    have HR := Lib.hid (show R = noM from HCN.out (by rw [HEE.out]; exact h1))
    have t1 : ((validE g : Int) != 0) = true := by simp; omega
    obtain ⟨c2, c3⟩ := HS1.out.cell (i := 1) rfl
    have fr0 := HS1.out.free (i := 1) rfl 0
    have fr1 := HS1.out.free (i := 1) rfl 1
    clear h1
    generalize validE g = z at *
    go_wp2_with fail
    have hS2 := HS1.out.set (i := 1) rfl (.slice none 0 0) (.slice none 0 0)
    obtain ⟨r0, r1⟩ := hS2.cell (i := 1) rfl
    refine bodyPost_ret (v := .tuple #[gval none 0 0 none 0 0, .int .i64 ((z : Nat))]) (by simp [results, Tryd.results15, go_sem, r0, r1]) rfl ?_
    exact ⟨⟨_, by rw [HEE.out], by rw [HR.out]; exact isM_nil _⟩, hS2.1⟩
  have HLS9 := Lib.hid (HLS.out h1)
  have HRX9 := Lib.hid (HRX.out h1)
  have HCE2 := Lib.hid (show E = if e1 ≠ 0 then e1 else e2 by rw [HCE.out, if_neg (by omega)])
  have HEC11 : Hid (e1 = 6 → E = 6 ∧ R = noM) := Lib.hid fun h => by
    have e : E = 6 := by rw [HCE2.out, h]; rfl
    exact ⟨e, HCN.out (by rw [e]; omega)⟩
  have HEC2 : Hid (e1 = 0 → e2 = 6 → E = 6 ∧ R = noM) := Lib.hid fun h0 h => by
    have e : E = 6 := by rw [HCE2.out, h0, h]; rfl
    exact ⟨e, HCN.out (by rw [e]; omega)⟩
  have HC0 : Hid (e1 = 0 → e2 = 0 → E = 0) := Lib.hid fun h0 h => by rw [HCE2.out, h0, h]; rfl
  obtain ⟨v1, v2, _⟩ := HVV.out h1
  have t1 : ((validE g : Int) != 0) = false := by simp; omega
  clear h1 HCE HCE2 HVV HCN HLS HRX
  generalize validE g = z at *
  go_upto_region 4 with fail
  obtain ⟨c0, c1⟩ := HS1.out.cell (i := 0) rfl
  simp only [Nat.add_zero] at c0 c1
  have HM : Hid (∀ u, Below w1.drew.heap.size w1.drew u → (fun u : World => u.cell? ⟨w.heap.size, 0, none⟩ = some (.slice An g.ns.length cn) ∧ u.cell? ⟨w.heap.size, 1, none⟩ = some (.slice Ae g.es.length ce)) u) := Lib.hid fun u hu => ⟨cell_up hu c0, cell_up hu c1⟩
  have HSD := Lib.hid (HS1.out.up (below_d w1))
  have WD0 := Lib.hid (Below.refl w1.drew.heap.size w1.drew)
  clear c0 c1 HS1 t1
  go_cut [9, 10] (fun x y wc => ∃ gn gm : Nat, x = .slice (some ⟨gn, 0, none⟩) g.ns.length g.ns.length ∧ y = .slice (some ⟨gm, 0, none⟩) g.es.length g.es.length ∧ w.heap.size + 2 ≤ gn ∧ w.heap.size + 2 ≤ gm ∧ gn ≠ gm ∧ OwnB wc gn (.slice (some ⟨gn, 0, none⟩) g.ns.length g.ns.length) (List.replicate g.ns.length false) ∧ OwnB wc gm (.slice (some ⟨gm, 0, none⟩) g.es.length g.es.length) (List.replicate g.es.length false) ∧ SR w [(.slice An g.ns.length cn, .slice Ae g.es.length ce, 25), (.slice none 0 0, .slice none 0 0, 27)] wc)
  case first =>
    go_wp2_with fail
    refine wp_region_noPanic ?_
    refine wp_region_held_drew (S := (fun u : World => u.cell? ⟨w.heap.size, 0, none⟩ = some (.slice An g.ns.length cn) ∧ u.cell? ⟨w.heap.size, 1, none⟩ = some (.slice Ae g.es.length ce))) (by kernel_rfl) (HM.out _ WD0.out) (fun hHeld => ?_)
    have HGZ : Hid (w.heap.size + 2 ≤ w1.drew.heap.size) := Lib.hid (heap_lt (HSD.out.2 1 _ rfl))
    generalize w1.drew = wd at *
    refine wpAnyH_take (i := 0) (v := ?_) (oper_at (r := _) rfl) (by kernel_rfl) (by kernel_rfl) (by kernel_rfl) (fun _ _ _ h => h) (Or.inl ⟨by rfl, ?_⟩) (by assumption) ?_
    rotate_left
    · intro w hSw; try dsimp only at hSw
      go_simp
      try with_reducible rfl
    try simp only [Act.put, List.setIfInBounds_toArray, List.set_cons_zero, List.set_cons_succ]
    refine wpAnyH_take (i := 1) (v := ?_) (oper_at (r := _) rfl) (by kernel_rfl) (by kernel_rfl) (by kernel_rfl) (fun _ _ _ h => h) (Or.inl ⟨by rfl, ?_⟩) (by assumption) ?_
    rotate_left
    · intro w hSw; try dsimp only at hSw
      go_simp
      try with_reducible rfl
    try simp only [Act.put, List.setIfInBounds_toArray, List.set_cons_zero, List.set_cons_succ]
    refine wpAnyH_take (i := 2) (v := ?_) (oper_at (r := _) rfl) (by kernel_rfl) (by kernel_rfl) (by kernel_rfl) (fun _ _ _ h => h) (Or.inl ⟨by rfl, ?_⟩) (by assumption) ?_
    rotate_left
    · intro w hSw; try dsimp only at hSw
      go_simp
      try with_reducible rfl
    try simp only [Act.put, List.setIfInBounds_toArray, List.set_cons_zero, List.set_cons_succ]
    refine wpAnyH_take (i := 4) (v := ?_) (oper_at (r := _) rfl) (by kernel_rfl) (by kernel_rfl) (by kernel_rfl) (fun _ _ _ h => h) (Or.inl ⟨by rfl, ?_⟩) (by assumption) ?_
    rotate_left
    · intro w hSw; try dsimp only at hSw
      go_simp
      try with_reducible rfl
    try simp only [Act.put, List.setIfInBounds_toArray, List.set_cons_zero, List.set_cons_succ]
    refine wpAnyH_take (i := 5) (v := ?_) (oper_at (r := _) rfl) (by kernel_rfl) (by kernel_rfl) (by kernel_rfl) (fun _ _ _ h => h) (Or.inl ⟨by rfl, ?_⟩) (by assumption) ?_
    rotate_left
    · intro w hSw; try dsimp only at hSw
      go_simp
      try with_reducible rfl
    try simp only [Act.put, List.setIfInBounds_toArray, List.set_cons_zero, List.set_cons_succ]
    refine wpAnyH_take (i := 6) (v := ?_) (oper_at (r := _) rfl) (by kernel_rfl) (by kernel_rfl) (by kernel_rfl) (fun _ _ _ h => h) (Or.inl ⟨by rfl, ?_⟩) (by assumption) ?_
    rotate_left
    · intro w hSw; try dsimp only at hSw
      go_simp
      try with_reducible rfl
    try simp only [Act.put, List.setIfInBounds_toArray, List.set_cons_zero, List.set_cons_succ]
    refine wpAnyH_ready (rs := [3, 7]) (by kernel_rfl) (by simp) ?_
    refine (AllReadyH.cons (oper_at (r := _) rfl) (fun K hK => ?_) (AllReadyH.cons (oper_at (r := _) rfl) (fun K hK => ?_) AllReadyH.nil))
    · skip
      refine step_make_B (by rfl) _ _ (by rfl) wd.heap.size g.ns.length (by rfl) (by rfl) (by omega) (Nat.le_refl _) ?_
      intro x2 ho2 hb2 hlt2
      have HO2 := Lib.hid ho2
      have HB2 := Lib.hid hb2
      have HL2 := Lib.hid hlt2
      clear ho2 hb2 hlt2
      refine hK.out _ _ (HM.out _ HB2.out) (fun _ => ?_)
      clear hK K
      try simp only [Act.put, List.setIfInBounds_toArray, List.set_cons_zero, List.set_cons_succ]
      refine wpAnyH_take (i := 8) (v := ?_) (oper_at (r := _) rfl) (by kernel_rfl) (by kernel_rfl) (by kernel_rfl) (fun _ _ _ h => h) (Or.inl ⟨by rfl, ?_⟩) (by assumption) ?_
      rotate_left
      · intro w hSw; try dsimp only at hSw
        go_simp
        try with_reducible rfl
      try simp only [Act.put, List.setIfInBounds_toArray, List.set_cons_zero, List.set_cons_succ]
      refine wpAnyH_ready (rs := [7]) (by kernel_rfl) (by simp) ?_
      refine AllReadyH.cons (oper_at (r := _) rfl) (fun K hK => ?_) AllReadyH.nil
      refine step_make_B (by rfl) _ _ (by rfl) x2.heap.size g.es.length (by rfl) (by rfl) (by omega) (Nat.le_refl _) ?_
      intro x3 ho3 hb3 hlt3
      have HO3 := Lib.hid ho3
      have HB3 := Lib.hid (HB2.out.trans (hb3.mono HB2.out.size))
      have HO4 := Lib.hid (OwnE.below HO2.out hb3 (Nat.le_refl _))
      clear ho3 hb3 hlt3
      refine hK.out _ _ (HM.out _ HB3.out) (fun _ => ?_)
      clear hK K
      try simp only [Act.put, List.setIfInBounds_toArray, List.set_cons_zero, List.set_cons_succ]
      refine wpAnyH_take (i := 9) (v := ?_) (oper_at (r := _) rfl) (by kernel_rfl) (by kernel_rfl) (by kernel_rfl) (fun _ _ _ h => h) (Or.inl ⟨by rfl, ?_⟩) (by assumption) ?_
      rotate_left
      · intro w hSw; try dsimp only at hSw
        go_simp
        try with_reducible rfl
      try simp only [Act.put, List.setIfInBounds_toArray, List.set_cons_zero, List.set_cons_succ]
      refine wpAnyH_done (by kernel_rfl) ?_ _
      refine NoPanic.normal ?_
      go_wp2_with fail
      go_meet
      have q1 := HGZ.out
      have q2 := HL2.out
      exact ⟨wd.heap.size, x2.heap.size, rfl, rfl, q1, by omega, by omega, HO4.out, HO3.out, HSD.out.up HB3.out⟩
    · skip
      refine step_make_B (by rfl) _ _ (by rfl) wd.heap.size g.es.length (by rfl) (by rfl) (by omega) (Nat.le_refl _) ?_
      intro x2 ho2 hb2 hlt2
      have HO2 := Lib.hid ho2
      have HB2 := Lib.hid hb2
      have HL2 := Lib.hid hlt2
      clear ho2 hb2 hlt2
      refine hK.out _ _ (HM.out _ HB2.out) (fun _ => ?_)
      clear hK K
      try simp only [Act.put, List.setIfInBounds_toArray, List.set_cons_zero, List.set_cons_succ]
      refine wpAnyH_ready (rs := [3]) (by kernel_rfl) (by simp) ?_
      refine AllReadyH.cons (oper_at (r := _) rfl) (fun K hK => ?_) AllReadyH.nil
      refine step_make_B (by rfl) _ _ (by rfl) x2.heap.size g.ns.length (by rfl) (by rfl) (by omega) (Nat.le_refl _) ?_
      intro x3 ho3 hb3 hlt3
      have HO3 := Lib.hid ho3
      have HB3 := Lib.hid (HB2.out.trans (hb3.mono HB2.out.size))
      have HO4 := Lib.hid (OwnE.below HO2.out hb3 (Nat.le_refl _))
      clear ho3 hb3 hlt3
      refine hK.out _ _ (HM.out _ HB3.out) (fun _ => ?_)
      clear hK K
      try simp only [Act.put, List.setIfInBounds_toArray, List.set_cons_zero, List.set_cons_succ]
      refine wpAnyH_take (i := 8) (v := ?_) (oper_at (r := _) rfl) (by kernel_rfl) (by kernel_rfl) (by kernel_rfl) (fun _ _ _ h => h) (Or.inl ⟨by rfl, ?_⟩) (by assumption) ?_
      rotate_left
      · intro w hSw; try dsimp only at hSw
        go_simp
        try with_reducible rfl
      try simp only [Act.put, List.setIfInBounds_toArray, List.set_cons_zero, List.set_cons_succ]
      refine wpAnyH_take (i := 9) (v := ?_) (oper_at (r := _) rfl) (by kernel_rfl) (by kernel_rfl) (by kernel_rfl) (fun _ _ _ h => h) (Or.inl ⟨by rfl, ?_⟩) (by assumption) ?_
      rotate_left
      · intro w hSw; try dsimp only at hSw
        go_simp
        try with_reducible rfl
      try simp only [Act.put, List.setIfInBounds_toArray, List.set_cons_zero, List.set_cons_succ]
      refine wpAnyH_done (by kernel_rfl) ?_ _
      refine NoPanic.normal ?_
      go_wp2_with fail
      go_meet
      have q1 := HGZ.out
      have q2 := HL2.out
      exact ⟨x2.heap.size, wd.heap.size, rfl, rfl, by omega, q1, by omega, HO3.out, HO4.out, HSD.out.up HB3.out⟩
  case rest =>
    obtain ⟨gn, gm, rfl, rfl, hgn, hgm, hne, hon, hom, hsr⟩ := hcut
    have HON : Hid (OwnB wc gn (.slice (some ⟨gn, 0, none⟩) g.ns.length g.ns.length) (mrkTo g.ns.length vs 0)) := Lib.hid hon
    have HOM : Hid (OwnB wc gm (.slice (some ⟨gm, 0, none⟩) g.es.length g.es.length) (mrkTo g.es.length xs 0)) := Lib.hid hom
    have HS := Lib.hid hsr
    clear hon hom hsr HM HSD WD0
    have HGN := Lib.hid hgn
    have HGM := Lib.hid hgm
    have HNE := Lib.hid hne
    clear hgn hgm hne
    go_wp2_with fail
    go_loopw [11] (fun x wr => ∃ k : Nat, k ≤ vs.length ∧ x = .int .i64 (k : Int) ∧ OwnB wr gn (.slice (some ⟨gn, 0, none⟩) g.ns.length g.ns.length) (mrkTo g.ns.length vs k) ∧ OwnB wr gm (.slice (some ⟨gm, 0, none⟩) g.es.length g.es.length) (mrkTo g.es.length xs 0) ∧ SR w [(.slice An g.ns.length cn, .slice Ae g.es.length ce, 25), (.slice none 0 0, .slice none 0 0, 27)] wr ∧ e1 = fstN (rngAt vs g.ns.length) k (vs.length - k)) (fun x _ => vs.length - (intOf x).toNat)
    case atStart => exact ⟨0, Nat.zero_le _, rfl, HON.out, HOM.out, HS.out, HE1.out⟩
    case round =>
      clear HON HOM HS HE1
      obtain ⟨k, hk, rfl, hon, hom, hsr, hrr⟩ := hrel
      have HON := Lib.hid hon
      have HOM := Lib.hid hom
      have HS := Lib.hid hsr
      have HRR := Lib.hid hrr
      clear hon hom hsr hrr
      by_cases hlt : k < vs.length
      · obtain ⟨b1, off1, hAe, hb1, hc⟩ := Ints.cells (HVX.out _ HS.out.1) hlt
        have ck := hc k hlt
        subst hAe
        have i0 : (0 : Int) ≤ (k : Int) := by omega
        have i1 : (k : Int) < (vs.length : Int) := by omega
        have i2 : ((k : Int)).toNat = k := by omega
        have HLT := Lib.hid hlt
        have HM : Hid (vs.length - ((k : Int) + 1).toNat < vs.length - ((k : Int)).toNat) := Lib.hid (by omega)
        have HHK := Lib.hid (fun hf => fstN_hit (f := rngAt vs g.ns.length) hlt hf)
        have HPK := Lib.hid (fun hf => fstN_pass (f := rngAt vs g.ns.length) hlt hf)
        have HR6 := Lib.hid (fun h => rng_hit (l := vs) (n := g.ns.length) (k := k) h)
        have HR0 := Lib.hid (fun h => rng_pass (l := vs) (n := g.ns.length) (k := k) h)
        have HMS : Hid (mrkTo g.ns.length vs (k + 1) = (mrkTo g.ns.length vs k).set (vs.getD k 0).toNat true) := Lib.hid rfl
        clear hc hlt
        by_cases hx : idxB (vs.getD k 0) g.ns.length = true
        case neg =>
          have hx' : idxB (vs.getD k 0) g.ns.length = false := by simpa using hx
          have h6 := HR6.out hx'
          have HE := Lib.hid (show e1 = 6 by rw [HRR.out, HHK.out (by rw [h6]; omega), h6])
          have hxx := idxB_not.1 hx'
          have HEC := Lib.hid (HEC11.out HE.out)
          clear HMS h6 hx hx' HR6 HR0 HHK HPK
          generalize vs.getD k 0 = y at *
          obtain ⟨c2, c3⟩ := HS.out.cell (i := 1) rfl
          have fr0 := HS.out.free (i := 1) rfl 0
          have fr1 := HS.out.free (i := 1) rfl 1
          have HS2 := Lib.hid (HS.out.set (i := 1) rfl (.slice none 0 0) (.slice none 0 0))
          by_cases hy : y < 0
          all_goals
            have hy2 := hxx
            clear hxx
            try have hy3 : (g.ns.length : Int) ≤ y := by omega
            clear hy2
            go_wp2_with fail
            obtain ⟨r0, r1⟩ := HS2.out.cell (i := 1) rfl
            refine bodyPost_ret (v := .tuple #[gval none 0 0 none 0 0, .int .i64 6]) (by simp [results, Tryd.results15, go_sem, r0, r1]) rfl ?_
            exact ⟨⟨_, by rw [HEC.out.1]; rfl, by rw [HEC.out.2]; exact isM_nil _⟩, HS2.out.1⟩
        have h0 := HR0.out hx
        have HE := Lib.hid (show e1 = fstN (rngAt vs g.ns.length) (k + 1) (vs.length - (k + 1)) by rw [HRR.out, HPK.out h0])
        obtain ⟨g0, g1⟩ := idxB_iff.1 hx
        obtain ⟨q, hq⟩ : ∃ q : Nat, vs.getD k 0 = (q : Int) := ⟨(vs.getD k 0).toNat, by omega⟩
        rw [hq] at ck g0 g1 HMS
        rw [Int.toNat_natCast] at HMS
        have hqn : q < g.ns.length := by omega
        have j2 : ((q : Int)).toNat = q := by omega
        have HPL : Hid (g.ns.length = (mrkTo g.ns.length vs k).length) := Lib.hid (mrkTo_len _ _ _).symm
        have r1 := OwnB.cell HPL.out HON.out hqn
        have r2 := OwnB.free HPL.out HON.out q
        have hst := OwnB.set HPL.out HON.out q true
        rw [← HMS.out] at hst
        have HST := Lib.hid hst.1
        have HST2 := Lib.hid (OwnE.kept HOM.out hst.2 (.inr (by show some gm ≠ some gn; intro e; injection e with e; exact HNE.out (e.symm))))
        have HS3 := Lib.hid (HS.out.far (p := ⟨gn, q, none⟩) HGN.out (.bool true))
        clear hst hx h0 hq hqn HHK HPK HR6 HR0 HMS
        go_wp2_with fail
        go_roundw
        case rel => exact ⟨k + 1, HLT.out, by go_num, HST.out, HST2.out, HS3.out, HE.out⟩
        case measure => exact HM.out
      · have e : k = vs.length := by omega
        subst e
        have HZE := Lib.hid (show e1 = 0 by rw [HRR.out, fstN_end (Nat.le_refl _)])
        clear HRR
        have HZV := Lib.hid HZE.out
        clear HZE
        have HEC12 := Lib.hid (fun h => HEC2.out HZV.out h)
        have HSW := Lib.hid HON.out
        have HRR2 := Lib.hid HE2.out
        clear HON
        have HON := Lib.hid HOM.out
        clear HOM
        have HOM := Lib.hid HSW.out
        clear HSW
        go_wp2_with fail
        go_loopw [12] (fun x wr => ∃ k : Nat, k ≤ xs.length ∧ x = .int .i64 (k : Int) ∧ OwnB wr gm (.slice (some ⟨gm, 0, none⟩) g.es.length g.es.length) (mrkTo g.es.length xs k) ∧ OwnB wr gn (.slice (some ⟨gn, 0, none⟩) g.ns.length g.ns.length) (mrkTo g.ns.length vs vs.length) ∧ SR w [(.slice An g.ns.length cn, .slice Ae g.es.length ce, 25), (.slice none 0 0, .slice none 0 0, 27)] wr ∧ e2 = fstN (rngAt xs g.es.length) k (xs.length - k)) (fun x _ => xs.length - (intOf x).toNat)
        case atStart => exact ⟨0, Nat.zero_le _, rfl, HON.out, HOM.out, HS.out, HRR2.out⟩
        case round =>
          clear HON HOM HS HRR2
          obtain ⟨k, hk, rfl, hon, hom, hsr, hrr⟩ := hrel
          have HON := Lib.hid hon
          have HOM := Lib.hid hom
          have HS := Lib.hid hsr
          have HRR := Lib.hid hrr
          clear hon hom hsr hrr
          by_cases hlt : k < xs.length
          · obtain ⟨b1, off1, hAe, hb1, hc⟩ := Ints.cells (HXX.out _ HS.out.1) hlt
            have ck := hc k hlt
            subst hAe
            have i0 : (0 : Int) ≤ (k : Int) := by omega
            have i1 : (k : Int) < (xs.length : Int) := by omega
            have i2 : ((k : Int)).toNat = k := by omega
            have HLT := Lib.hid hlt
            have HM : Hid (xs.length - ((k : Int) + 1).toNat < xs.length - ((k : Int)).toNat) := Lib.hid (by omega)
            have HHK := Lib.hid (fun hf => fstN_hit (f := rngAt xs g.es.length) hlt hf)
            have HPK := Lib.hid (fun hf => fstN_pass (f := rngAt xs g.es.length) hlt hf)
            have HR6 := Lib.hid (fun h => rng_hit (l := xs) (n := g.es.length) (k := k) h)
            have HR0 := Lib.hid (fun h => rng_pass (l := xs) (n := g.es.length) (k := k) h)
            have HMS : Hid (mrkTo g.es.length xs (k + 1) = (mrkTo g.es.length xs k).set (xs.getD k 0).toNat true) := Lib.hid rfl
            clear hc hlt
            by_cases hx : idxB (xs.getD k 0) g.es.length = true
            case neg =>
              have hx' : idxB (xs.getD k 0) g.es.length = false := by simpa using hx
              have h6 := HR6.out hx'
              have HE := Lib.hid (show e2 = 6 by rw [HRR.out, HHK.out (by rw [h6]; omega), h6])
              have hxx := idxB_not.1 hx'
              have HEC := Lib.hid (HEC12.out HE.out)
              clear HMS h6 hx hx' HR6 HR0 HHK HPK
              generalize xs.getD k 0 = y at *
              obtain ⟨c2, c3⟩ := HS.out.cell (i := 1) rfl
              have fr0 := HS.out.free (i := 1) rfl 0
              have fr1 := HS.out.free (i := 1) rfl 1
              have HS2 := Lib.hid (HS.out.set (i := 1) rfl (.slice none 0 0) (.slice none 0 0))
              by_cases hy : y < 0
              all_goals
                have hy2 := hxx
                clear hxx
                try have hy3 : (g.es.length : Int) ≤ y := by omega
                clear hy2
                go_wp2_with fail
                obtain ⟨r0, r1⟩ := HS2.out.cell (i := 1) rfl
                refine bodyPost_ret (v := .tuple #[gval none 0 0 none 0 0, .int .i64 6]) (by simp [results, Tryd.results15, go_sem, r0, r1]) rfl ?_
                exact ⟨⟨_, by rw [HEC.out.1]; rfl, by rw [HEC.out.2]; exact isM_nil _⟩, HS2.out.1⟩
            have h0 := HR0.out hx
            have HE := Lib.hid (show e2 = fstN (rngAt xs g.es.length) (k + 1) (xs.length - (k + 1)) by rw [HRR.out, HPK.out h0])
            obtain ⟨g0, g1⟩ := idxB_iff.1 hx
            obtain ⟨q, hq⟩ : ∃ q : Nat, xs.getD k 0 = (q : Int) := ⟨(xs.getD k 0).toNat, by omega⟩
            rw [hq] at ck g0 g1 HMS
            rw [Int.toNat_natCast] at HMS
            have hqn : q < g.es.length := by omega
            have j2 : ((q : Int)).toNat = q := by omega
            have HPL : Hid (g.es.length = (mrkTo g.es.length xs k).length) := Lib.hid (mrkTo_len _ _ _).symm
            have r1 := OwnB.cell HPL.out HON.out hqn
            have r2 := OwnB.free HPL.out HON.out q
            have hst := OwnB.set HPL.out HON.out q true
            rw [← HMS.out] at hst
            have HST := Lib.hid hst.1
            have HST2 := Lib.hid (OwnE.kept HOM.out hst.2 (.inr (by show some gn ≠ some gm; intro e; injection e with e; exact HNE.out (e))))
            have HS3 := Lib.hid (HS.out.far (p := ⟨gm, q, none⟩) HGM.out (.bool true))
            clear hst hx h0 hq hqn HHK HPK HR6 HR0 HMS
            go_wp2_with fail
            go_roundw
            case rel => exact ⟨k + 1, HLT.out, by go_num, HST.out, HST2.out, HS3.out, HE.out⟩
            case measure => exact HM.out
          · have e : k = xs.length := by omega
            subst e
            have HZE := Lib.hid (show e2 = 0 by rw [HRR.out, fstN_end (Nat.le_refl _)])
            clear HRR
            have HCE := Lib.hid (HC0.out HZV.out HZE.out)
            have HLS1 := Lib.hid (HLS9.out (mrkTo g.ns.length vs vs.length) (mrkTo g.es.length xs xs.length) (mrkTo_len _ _ _) (mrkTo_len _ _ _))
            have HEX := Lib.hid (HRX9.out HZV.out HZE.out)
            obtain ⟨A4, c4, e4, hr4⟩ := OwnE.reads HOM.out
            obtain ⟨A5, c5, e5, hr5⟩ := OwnE.reads HON.out
            injection e4 with e4 e41 e42
            injection e5 with e5 e51 e52
            have h4 : Bos wr wr.heap.size (some ⟨gn, 0, none⟩) (mrkTo g.ns.length vs vs.length) := by rw [e4]; exact hr4
            have h5 : Bos wr wr.heap.size (some ⟨gm, 0, none⟩) (mrkTo g.es.length xs xs.length) := by rw [e5]; exact hr5
            have HLQ := Lib.hid (show Calls Tryd.prog 49 #[gval An g.ns.length cn Ae g.es.length ce, .slice (some ⟨gn, 0, none⟩) g.ns.length g.ns.length, .slice (some ⟨gm, 0, none⟩) g.es.length g.es.length] wr _ from by have h := HLS1.out (some ⟨gn, 0, none⟩) g.ns.length (some ⟨gm, 0, none⟩) g.es.length wr HS.out.1 h4 h5; rw [mrkTo_len, mrkTo_len, HEX.out] at h; exact h)
            clear e4 e41 e42 e5 e51 e52 hr4 hr5 h4 h5
            obtain ⟨c0, c1⟩ := HS.out.cell (i := 0) rfl
            simp only [Nat.add_zero] at c0 c1
            go_wp2_with fail
            refine HLQ.out.mono ?_
            rintro e x2 ⟨⟨v, rfl, Xn, xn, Xe, xe, rfl, hx⟩, hb⟩
            have HS2 := Lib.hid (HS.out.up hb)
            have HX := Lib.hid hx
            clear hb hx c0 c1
            obtain ⟨c2, c3⟩ := HS2.out.cell (i := 1) rfl
            have fr0 := HS2.out.free (i := 1) rfl 0
            have fr1 := HS2.out.free (i := 1) rfl 1
            go_wp2_with fail
            have HSX := Lib.hid (HS2.out.set (i := 1) rfl (.slice Xn R.ns.length xn) (.slice Xe R.es.length xe))
            obtain ⟨r0, r1⟩ := HSX.out.cell (i := 1) rfl
            have hbx : BX (w.heap.size + 1) (.slice none 0 0) (.slice none 0 0) 27 x2 := HS2.out.2 1 _ rfl
            refine bodyPost_ret (v := .tuple #[gval Xn R.ns.length xn Xe R.es.length xe, .int .i64 0]) (by simp [results, Tryd.results15, go_sem, r0, r1]) rfl ?_
            exact ⟨⟨gval Xn R.ns.length xn Xe R.es.length xe, by rw [HCE.out]; rfl, Xn, xn, Xe, xe, rfl, ⟨ints_set' HX.out.ns hbx _ _, ints_set' HX.out.es hbx _ _, HX.out.cn, HX.out.ce⟩⟩, HSX.out.1⟩

end Go.Proofs.YthnhacncnhknnaaDoor
