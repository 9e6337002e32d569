/-
  Graphs: where a law stands; GraphAdd.
-/
import Derived.Test.YtiafmhdicgmfaaaGAwk
import Derived.Test.YtiafmhdicgmfaaaGRemR
import Derived.Test.YtiafmhdicgmfaaaGAddN
import Derived.Test.YtiafmhdicgmfaaaGAddE
namespace Go.Proofs.Ytiafmhdicgmfaaa
open Go.RowKit

/-- a box that holds a graph -/
structure GB (h : Nat) (An : Option Addr) (cn : Nat) (Ae : Option Addr) (ce : Nat) (g : Gr) (W : World) : Prop where
  box : BoxIs h (.slice An g.ns.length cn) (.slice Ae g.es.length ce) 25 W
  gr : GrAt W An cn Ae ce g
theorem GB.up {h : Nat} {An : Option Addr} {cn : Nat} {Ae : Option Addr} {ce : Nat} {g : Gr} {W W' : World} (k : GB h An cn Ae ce g W) (hb : Below W.heap.size W W') : GB h An cn Ae ce g W' := ⟨k.box.up hb, k.gr.up hb⟩
theorem GB.start {w : World} {An : Option Addr} {cn : Nat} {Ae : Option Addr} {ce : Nat} {g : Gr} (hT : GrAt w An cn Ae ce g) : GB w.heap.size An cn Ae ce g (w.alloc (.cells #[.slice An g.ns.length cn, .slice Ae g.es.length ce] 25 (0, 0))) := ⟨heap_alloc_new _ _, hT.up (below_a _ _)⟩
abbrev C2 (h : Nat) (u v : Value) (W : World) : Prop := (W.cell? ⟨h, 0, none⟩ = some u ∧ W.cell? ⟨h, 1, none⟩ = some v)
theorem GB.cells {h : Nat} {An : Option Addr} {cn : Nat} {Ae : Option Addr} {ce : Nat} {g : Gr} {W : World} (k : GB h An cn Ae ce g W) : C2 h (.slice An g.ns.length cn) (.slice Ae g.es.length ce) W := k.box.cells
theorem GB.lt {h : Nat} {An : Option Addr} {cn : Nat} {Ae : Option Addr} {ce : Nat} {g : Gr} {W : World} (k : GB h An cn Ae ce g W) : h < W.heap.size := heap_lt k.box
theorem oper_at {l r : List Oper} {i : Nat} {o : Oper} (h : l.drop i = o :: r) : l.toArray[i]? = some o := by
  have h2 : (l.drop i)[0]? = some o := by rw [h]; rfl
  rw [List.getElem?_drop] at h2
  simpa using h2
/-- Copied, of a graph that is small -/
theorem copyG_any (g : Gr) (An : Option Addr) (cn : Nat) (Ae : Option Addr) (ce : Nat) (w : World) (hf : fewB g = true) (hT : GrAt w An cn Ae ce g) :
    Calls Try.prog 13 #[gval An g.ns.length cn Ae g.es.length ce] w fun e w' => (∃ Cn fn Ce fe, e = .returned (gval Cn g.ns.length fn Ce g.es.length fe) ∧ GrAt w' Cn fn Ce fe g) ∧ Below w.heap.size w w' := by
  obtain ⟨f1, f2⟩ := few_iff.1 hf
  refine (copied_any g An cn Ae ce w ⟨by omega, by omega⟩ hT).mono ?_
  rintro e w' ⟨⟨v, u, rfl, h1, h2⟩, hb⟩
  obtain ⟨An', cn', Ae', ce', e, h⟩ := isG_of (g := g) h1.reads_cap h2.reads_cap
  exact ⟨⟨_, _, _, _, by rw [e], h⟩, hb⟩

/-- three boxes with graphs, and the world that was -/
structure LK3 (w : World) (h0 : Nat) (A0 : Option Addr) (c0 : Nat) (B0 : Option Addr) (d0 : Nat) (g0 : Gr) (h1 : Nat) (A1 : Option Addr) (c1 : Nat) (B1 : Option Addr) (d1 : Nat) (g1 : Gr) (h2 : Nat) (A2 : Option Addr) (c2 : Nat) (B2 : Option Addr) (d2 : Nat) (g2 : Gr) (W : World) : Prop where
  b0 : GB h0 A0 c0 B0 d0 g0 W
  b1 : GB h1 A1 c1 B1 d1 g1 W
  b2 : GB h2 A2 c2 B2 d2 g2 W
  be : Below w.heap.size w W
abbrev S3 (w : World) (h0 : Nat) (A0 : Option Addr) (c0 : Nat) (B0 : Option Addr) (d0 : Nat) (g0 : Gr) (h1 : Nat) (A1 : Option Addr) (c1 : Nat) (B1 : Option Addr) (d1 : Nat) (g1 : Gr) (h2 : Nat) (A2 : Option Addr) (c2 : Nat) (B2 : Option Addr) (d2 : Nat) (g2 : Gr) (W : World) : Prop :=
  (C2 h0 (.slice A0 g0.ns.length c0) (.slice B0 g0.es.length d0) W ∧ C2 h1 (.slice A1 g1.ns.length c1) (.slice B1 g1.es.length d1) W ∧ C2 h2 (.slice A2 g2.ns.length c2) (.slice B2 g2.es.length d2) W) ∧ LK3 w h0 A0 c0 B0 d0 g0 h1 A1 c1 B1 d1 g1 h2 A2 c2 B2 d2 g2 W
section
variable {w W W' : World} {h0 : Nat} {A0 : Option Addr} {c0 : Nat} {B0 : Option Addr} {d0 : Nat} {g0 : Gr} {h1 : Nat} {A1 : Option Addr} {c1 : Nat} {B1 : Option Addr} {d1 : Nat} {g1 : Gr} {h2 : Nat} {A2 : Option Addr} {c2 : Nat} {B2 : Option Addr} {d2 : Nat} {g2 : Gr}
theorem S3.mk (k0 : GB h0 A0 c0 B0 d0 g0 W) (k1 : GB h1 A1 c1 B1 d1 g1 W) (k2 : GB h2 A2 c2 B2 d2 g2 W) (be : Below w.heap.size w W) : S3 w h0 A0 c0 B0 d0 g0 h1 A1 c1 B1 d1 g1 h2 A2 c2 B2 d2 g2 W := ⟨⟨k0.cells, k1.cells, k2.cells⟩, ⟨k0, k1, k2, be⟩⟩
theorem S3.up (k : S3 w h0 A0 c0 B0 d0 g0 h1 A1 c1 B1 d1 g1 h2 A2 c2 B2 d2 g2 W) (hb : Below W.heap.size W W') : S3 w h0 A0 c0 B0 d0 g0 h1 A1 c1 B1 d1 g1 h2 A2 c2 B2 d2 g2 W' :=
  S3.mk (k.2.b0.up hb) (k.2.b1.up hb) (k.2.b2.up hb) (k.2.be.trans (hb.mono k.2.be.size))
end

theorem addNG_ne {g : Gr} {k : Int} (h : addNE g k = 0) : decide (g = addNG g k) = false := by
  rw [decide_eq_false_iff_not]
  unfold addNG
  rw [if_pos h]
  intro e
  have : g.ns.length = (g.ns ++ [k]).length := congrArg (fun x => x.ns.length) e
  simp at this

set_option maxRecDepth 100000 in
set_option maxHeartbeats 4000000 in
theorem lawAdd (g : Gr) (An : Option Addr) (cn : Nat) (Ae : Option Addr) (ce : Nat) (k : Int) (w : World) (hT : GrAt w An cn Ae ce g) :
    Calls Try.prog 3 #[gval An g.ns.length cn Ae g.es.length ce, .int .i64 k] w fun e w' => e = .returned (.bool true) ∧ Below w.heap.size w w' := by
  have HG0 := Lib.hid (GB.start hT)
  have HB0 := Lib.hid (below_a w (.cells #[.slice An g.ns.length cn, .slice Ae g.es.length ce] 25 (0, 0)))
  have HNE := Lib.hid (fun h => addNG_ne (g := g) (k := k) h)
  have HAP := Lib.hid (fun An cn Ae ce W => addNP g k An cn Ae ce W)
  have HAR := Lib.hid (fun An cn Ae ce W => addNR g k An cn Ae ce W)
  clear hT
  generalize addNE g k = R at HNE HAP HAR
  generalize addNI g k = I at HNE HAP HAR
  generalize addNG g k = G at HNE HAP HAR
  go_enter Try.func3, Try.ntmps3
  go_wp2_with fail
  refine (awake_any _).mono ?_
  rintro e w1 ⟨rfl, hb1⟩
  have HG1 := Lib.hid (HG0.out.up hb1)
  have HB1 := Lib.hid (HB0.out.trans (hb1.mono HB0.out.size))
  clear hb1 HG0 HB0
  obtain ⟨c0, c1⟩ := HG1.out.cells
  have z0 := HG1.out.lt
  go_wp2_with fail
  refine (few_any g _ _ _ _ _ HG1.out.gr).mono ?_
  rintro e w2 ⟨rfl, hb2⟩
  have HG2 := Lib.hid (HG1.out.up hb2)
  have HB2 := Lib.hid (HB1.out.trans (hb2.mono HB1.out.size))
  clear hb2 HG1 HB1 c0 c1 z0
  cases hf : fewB g with
  | false =>
    go_wp2_with fail
    refine (awake_any _).mono ?_
    rintro e w3 ⟨rfl, hb3⟩
    have HBF := Lib.hid (HB2.out.trans (hb3.mono HB2.out.size))
    clear hb3
    go_wp2_with fail
    go_ret
    exact ⟨rfl, HBF.out⟩
  | true =>
    obtain ⟨c0, c1⟩ := HG2.out.cells
    have z0 := HG2.out.lt
    have HF := Lib.hid hf
    go_wp2_with fail
    refine (copyG_any g _ _ _ _ _ HF.out HG2.out.gr).mono ?_
    rintro e w3 ⟨⟨Cn, fn, Ce, fe, rfl, hC⟩, hb3⟩
    have HG3 := Lib.hid (HG2.out.up hb3)
    have HB3 := Lib.hid (HB2.out.trans (hb3.mono HB2.out.size))
    have HC := Lib.hid hC
    clear hb3 hC HG2 HB2 c0 c1 z0 hf
    go_wp2_with fail
    refine (HAP.out _ _ _ _ _ HC.out).mono ?_
    rintro e w4 ⟨⟨v, rfl, ⟨Dn, en, De, ee, rfl, hD⟩⟩, hb4⟩
    have HG4 := Lib.hid (HG3.out.up hb4)
    have HB4 := Lib.hid (HB3.out.trans (hb4.mono HB3.out.size))
    have HD := Lib.hid hD
    clear hb4 hD HG3 HB3 HC HAP
    obtain ⟨c0, c1⟩ := HG4.out.cells
    have z0 := HG4.out.lt
    go_wp2_with fail
    refine (HAR.out _ _ _ _ _ (HG4.out.gr.up (below_a _ _))).mono ?_
    rintro e w5 ⟨⟨v, rfl, ⟨En, hn, Ee, he, rfl, hE⟩⟩, hb5⟩
    have hb45 := (below_a w4 (.cells #[.slice Dn G.ns.length en, .slice De G.es.length ee] 25 (0, 0))).trans (hb5.mono (by simp))
    have HG5 := Lib.hid (HG4.out.up hb45)
    have HB5 := Lib.hid (HB4.out.trans (hb45.mono HB4.out.size))
    have HD5 := Lib.hid ((GB.start HD.out).up hb5)
    have HE := Lib.hid hE
    clear hb5 hb45 hE HG4 HB4 HD HAR c0 c1 z0
    go_wp2_with fail
    have hs := S3.mk (HG5.out.up (below_a w5 (.cells #[.slice En G.ns.length hn, .slice Ee G.es.length he] 25 (0, 0)))) (HD5.out.up (below_a w5 (.cells #[.slice En G.ns.length hn, .slice Ee G.es.length he] 25 (0, 0)))) (GB.start HE.out) (HB5.out.trans ((below_a _ _).mono HB5.out.size))
    generalize w5.alloc (.cells #[.slice En G.ns.length hn, .slice Ee G.es.length he] 25 (0, 0)) = w6 at hs ⊢
    have HS := Lib.hid hs
    have HSd := Lib.hid (hs.up (below_d _))
    clear hs HG5 HB5 HD5 HE
    have HU := Lib.hid (fun W W' (h : S3 w w.heap.size An cn Ae ce g w4.heap.size Dn en De ee G w5.heap.size En hn Ee he G W) hb => S3.up (W' := W') h hb)
    have HCP := Lib.hid (fun W (h : S3 w w.heap.size An cn Ae ce g w4.heap.size Dn en De ee G w5.heap.size En hn Ee he G W) => copyG_any g An cn Ae ce W HF.out h.2.b0.gr)
    have HVP := Lib.hid (fun W Cn fn Ce fe (h : GrAt W Cn fn Ce fe g) => validP_any g Cn fn Ce fe W h)
    have HVR := Lib.hid (fun W (h : S3 w w.heap.size An cn Ae ce g w4.heap.size Dn en De ee G w5.heap.size En hn Ee he G W) => validR_any g An cn Ae ce W h.2.b0.gr)
    have hsr := fun W (h : S3 w w.heap.size An cn Ae ce g w4.heap.size Dn en De ee G w5.heap.size En hn Ee he G W) => sameR_any G G Dn en De ee En hn Ee he W h.2.b1.gr h.2.b2.gr
    rw [decide_eq_true (p := G = G) rfl] at hsr
    have HSR := Lib.hid hsr
    have hsp := fun W Cn fn Ce fe (h : S3 w w.heap.size An cn Ae ce g w4.heap.size Dn en De ee G w5.heap.size En hn Ee he G W) (k : GrAt W Cn fn Ce fe g) => sameP_any g g An cn Ae ce Cn fn Ce fe W h.2.b0.gr k
    rw [decide_eq_true (p := g = g) rfl] at hsp
    have HSP := Lib.hid hsp
    have HSQ := Lib.hid (fun W (h : S3 w w.heap.size An cn Ae ce g w4.heap.size Dn en De ee G w5.heap.size En hn Ee he G W) => sameP_any g G An cn Ae ce Dn en De ee W h.2.b0.gr h.2.b1.gr)
    clear hsr hsp
    generalize validE g = V at HVP HVR
    have tV : ((V : Int) == (V : Int)) = true := by simp
    have tR : ((R : Int) == (R : Int)) = true := by simp
    have tI : ((I : Int) == (I : Int)) = true := by simp
    by_cases hR : R = 0
    · have HNE' := HNE.out hR
      rw [HNE'] at HSQ
      have t0 : ((R : Int) != 0) = false := by simp; omega
      clear HNE HNE' hR
      go_region_held3 (S3 w w.heap.size An cn Ae ce g w4.heap.size Dn en De ee G w5.heap.size En hn Ee he G)
        (first | assumption | exact HSd.out | exact HS.out | exact HU.out _ _ (by assumption) (below_d _))
        ((first
          | (with_reducible refine (HCP.out _ (by first | assumption | exact HSd.out | exact HS.out)).mono ?_; rintro e w7 ⟨⟨Xn, xn, Xe, xe, rfl, hX⟩, hb7⟩; have hq7 := HU.out _ _ (by first | assumption | exact HSd.out | exact HS.out) hb7; clear hb7)
          | (with_reducible refine (HVP.out _ _ _ _ _ (by assumption)).mono ?_; rintro e w8 ⟨rfl, hb8⟩; have hq8 := HU.out _ _ (by assumption) hb8; clear hb8)
          | (with_reducible refine (HVR.out _ (by assumption)).mono ?_; rintro e w9 ⟨rfl, hb9⟩; have hq9 := HU.out _ _ (by assumption) hb9; clear hb9)
          | (with_reducible refine (HSR.out _ (by assumption)).mono ?_; rintro e w10 ⟨rfl, hb10⟩; have hq10 := HU.out _ _ (by assumption) hb10; clear hb10)
          | (with_reducible refine (HSQ.out _ (by assumption)).mono ?_; rintro e w11 ⟨rfl, hb11⟩; have hq11 := HU.out _ _ (by assumption) hb11; clear hb11)
          | (with_reducible refine (HSP.out _ _ _ _ _ (by assumption) (by assumption)).mono ?_; rintro e w12 ⟨rfl, hb12⟩; have hq12 := HU.out _ _ (by assumption) hb12; clear hb12)))
      have HBF := Lib.hid hq11.2.be
      go_wp2_with fail
      go_ret
      exact ⟨rfl, HBF.out⟩
    · have t0 : ((R : Int) != 0) = true := by simp; omega
      clear HNE hR HSQ
      refine wp_region_held_drew (S := (S3 w w.heap.size An cn Ae ce g w4.heap.size Dn en De ee G w5.heap.size En hn Ee he G)) (by kernel_rfl) HSd.out (fun hHeld => ?_)
      refine wpAnyH_take (i := 0) (v := ?_) (oper_at (r := _) rfl) (by kernel_rfl) (by kernel_rfl) (by kernel_rfl) (fun _ _ _ h => h) (Or.inl ⟨by rfl, ?_⟩) (by assumption) ?_
      rotate_left
      · intro w hSw; try dsimp only at hSw
        go_simp
        try with_reducible rfl
      try simp only [Act.put, List.setIfInBounds_toArray, List.set_cons_zero, List.set_cons_succ]
      refine wpAnyH_take (i := 3) (v := ?_) (oper_at (r := _) rfl) (by kernel_rfl) (by kernel_rfl) (by kernel_rfl) (fun _ _ _ h => h) (Or.inl ⟨by rfl, ?_⟩) (by assumption) ?_
      rotate_left
      · intro w hSw; try dsimp only at hSw
        go_simp
        try with_reducible rfl
      try simp only [Act.put, List.setIfInBounds_toArray, List.set_cons_zero, List.set_cons_succ]
      refine wpAnyH_ready (rs := [1]) (by kernel_rfl) (by simp) ?_
      refine AllReadyH.cons (oper_at (r := _) rfl) (fun K hK => ?_) AllReadyH.nil
      go_simp
      refine (HCP.out _ (by first | assumption | exact HSd.out)).mono ?_
      rintro e w7 ⟨⟨Xn, xn, Xe, xe, rfl, hX⟩, hb7⟩
      have hq7 := HU.out _ _ (by first | assumption | exact HSd.out) hb7
      clear hb7
      go_wp2_with fail
      refine hK.out _ _ (by assumption) (fun _ => ?_)
      clear hK K
      try simp only [Act.put, List.setIfInBounds_toArray, List.set_cons_zero, List.set_cons_succ]
      refine wpAnyH_ready (rs := [2]) (by kernel_rfl) (by simp) ?_
      refine AllReadyH.cons (oper_at (r := _) rfl) (fun K hK => ?_) AllReadyH.nil
      go_simp
      refine (HVP.out _ _ _ _ _ (by assumption)).mono ?_
      rintro e w8 ⟨rfl, hb8⟩
      have hq8 := HU.out _ _ (by assumption) hb8
      clear hb8
      go_wp2_with fail
      refine hK.out _ _ (by assumption) (fun _ => ?_)
      clear hK K
      try simp only [Act.put, List.setIfInBounds_toArray, List.set_cons_zero, List.set_cons_succ]
      refine wpAnyH_ready (rs := [4]) (by kernel_rfl) (by simp) ?_
      refine AllReadyH.cons (oper_at (r := _) rfl) (fun K hK => ?_) AllReadyH.nil
      go_simp
      refine (HVR.out _ (by assumption)).mono ?_
      rintro e w9 ⟨rfl, hb9⟩
      have hq9 := HU.out _ _ (by assumption) hb9
      clear hb9
      go_wp2_with fail
      refine hK.out _ _ (by assumption) (fun _ => ?_)
      clear hK K
      try simp only [Act.put, List.setIfInBounds_toArray, List.set_cons_zero, List.set_cons_succ]
      refine wpAnyH_take (i := 5) (v := ?_) (oper_at (r := _) rfl) (by kernel_rfl) (by kernel_rfl) (by kernel_rfl) (fun _ _ _ h => h) (Or.inl ⟨by rfl, ?_⟩) (by assumption) ?_
      rotate_left
      · intro w hSw; try dsimp only at hSw
        go_simp
        try with_reducible rfl
      try simp only [Act.put, List.setIfInBounds_toArray, List.set_cons_zero, List.set_cons_succ]
      refine wpAnyH_take (i := 6) (v := ?_) (oper_at (r := _) rfl) (by kernel_rfl) (by kernel_rfl) (by kernel_rfl) (fun _ _ _ h => h) (Or.inl ⟨by rfl, ?_⟩) (by assumption) ?_
      rotate_left
      · intro w hSw; try dsimp only at hSw
        go_simp
        try with_reducible rfl
      try simp only [Act.put, List.setIfInBounds_toArray, List.set_cons_zero, List.set_cons_succ]
      refine wpAnyH_take (i := 7) (v := ?_) (oper_at (r := _) rfl) (by kernel_rfl) (by kernel_rfl) (by kernel_rfl) (fun _ _ _ h => h) (Or.inl ⟨by rfl, ?_⟩) (by assumption) ?_
      rotate_left
      · intro w hSw; try dsimp only at hSw
        go_simp
        try with_reducible rfl
      try simp only [Act.put, List.setIfInBounds_toArray, List.set_cons_zero, List.set_cons_succ]
      refine wpAnyH_take (i := 8) (v := ?_) (oper_at (r := _) rfl) (by kernel_rfl) (by kernel_rfl) (by kernel_rfl) (fun _ _ _ h => h) (Or.inl ⟨by rfl, ?_⟩) (by assumption) ?_
      rotate_left
      · intro w hSw; try dsimp only at hSw
        go_simp
        try with_reducible rfl
      try simp only [Act.put, List.setIfInBounds_toArray, List.set_cons_zero, List.set_cons_succ]
      refine wpAnyH_take (i := 9) (v := ?_) (oper_at (r := _) rfl) (by kernel_rfl) (by kernel_rfl) (by kernel_rfl) (fun _ _ _ h => h) (Or.inl ⟨by rfl, ?_⟩) (by assumption) ?_
      rotate_left
      · intro w hSw; try dsimp only at hSw
        go_simp
        try with_reducible rfl
      try simp only [Act.put, List.setIfInBounds_toArray, List.set_cons_zero, List.set_cons_succ]
      refine wpAnyH_take (i := 10) (v := ?_) (oper_at (r := _) rfl) (by kernel_rfl) (by kernel_rfl) (by kernel_rfl) (fun _ _ _ h => h) (Or.inl ⟨by rfl, ?_⟩) (by assumption) ?_
      rotate_left
      · intro w hSw; try dsimp only at hSw
        go_simp
        try with_reducible rfl
      try simp only [Act.put, List.setIfInBounds_toArray, List.set_cons_zero, List.set_cons_succ]
      refine wpAnyH_take (i := 11) (v := ?_) (oper_at (r := _) rfl) (by kernel_rfl) (by kernel_rfl) (by kernel_rfl) (fun _ _ _ h => h) (Or.inl ⟨by rfl, ?_⟩) (by assumption) ?_
      rotate_left
      · intro w hSw; try dsimp only at hSw
        go_simp
        try with_reducible rfl
      try simp only [Act.put, List.setIfInBounds_toArray, List.set_cons_zero, List.set_cons_succ]
      refine wpAnyH_take (i := 12) (v := ?_) (oper_at (r := _) rfl) (by kernel_rfl) (by kernel_rfl) (by kernel_rfl) (fun _ _ _ h => h) (Or.inl ⟨by rfl, ?_⟩) (by assumption) ?_
      rotate_left
      · intro w hSw; try dsimp only at hSw
        go_simp
        try with_reducible rfl
      try simp only [Act.put, List.setIfInBounds_toArray, List.set_cons_zero, List.set_cons_succ]
      refine wpAnyH_take (i := 13) (v := ?_) (oper_at (r := _) rfl) (by kernel_rfl) (by kernel_rfl) (by kernel_rfl) (fun _ _ _ h => h) (Or.inl ⟨by rfl, ?_⟩) (by assumption) ?_
      rotate_left
      · intro w hSw; try dsimp only at hSw
        go_simp
        try with_reducible rfl
      try simp only [Act.put, List.setIfInBounds_toArray, List.set_cons_zero, List.set_cons_succ]
      refine wpAnyH_take (i := 14) (v := ?_) (oper_at (r := _) rfl) (by kernel_rfl) (by kernel_rfl) (by kernel_rfl) (fun _ _ _ h => h) (Or.inl ⟨by rfl, ?_⟩) (by assumption) ?_
      rotate_left
      · intro w hSw; try dsimp only at hSw
        go_simp
        try with_reducible rfl
      try simp only [Act.put, List.setIfInBounds_toArray, List.set_cons_zero, List.set_cons_succ]
      refine wpAnyH_take (i := 15) (v := ?_) (oper_at (r := _) rfl) (by kernel_rfl) (by kernel_rfl) (by kernel_rfl) (fun _ _ _ h => h) (Or.inl ⟨by rfl, ?_⟩) (by assumption) ?_
      rotate_left
      · intro w hSw; try dsimp only at hSw
        go_simp
        try with_reducible rfl
      try simp only [Act.put, List.setIfInBounds_toArray, List.set_cons_zero, List.set_cons_succ]
      refine wpAnyH_take (i := 16) (v := ?_) (oper_at (r := _) rfl) (by kernel_rfl) (by kernel_rfl) (by kernel_rfl) (fun _ _ _ h => h) (Or.inl ⟨by rfl, ?_⟩) (by assumption) ?_
      rotate_left
      · intro w hSw; try dsimp only at hSw
        go_simp
        try with_reducible rfl
      try simp only [Act.put, List.setIfInBounds_toArray, List.set_cons_zero, List.set_cons_succ]
      refine wpAnyH_take (i := 17) (v := ?_) (oper_at (r := _) rfl) (by kernel_rfl) (by kernel_rfl) (by kernel_rfl) (fun _ _ _ h => h) (Or.inl ⟨by rfl, ?_⟩) (by assumption) ?_
      rotate_left
      · intro w hSw; try dsimp only at hSw
        go_simp
        try with_reducible rfl
      try simp only [Act.put, List.setIfInBounds_toArray, List.set_cons_zero, List.set_cons_succ]
      refine wpAnyH_take (i := 18) (v := ?_) (oper_at (r := _) rfl) (by kernel_rfl) (by kernel_rfl) (by kernel_rfl) (fun _ _ _ h => h) (Or.inl ⟨by rfl, ?_⟩) (by assumption) ?_
      rotate_left
      · intro w hSw; try dsimp only at hSw
        go_simp
        try with_reducible rfl
      try simp only [Act.put, List.setIfInBounds_toArray, List.set_cons_zero, List.set_cons_succ]
      refine wpAnyH_ready (rs := [19]) (by kernel_rfl) (by simp) ?_
      refine AllReadyH.cons (oper_at (r := _) rfl) (fun K hK => ?_) AllReadyH.nil
      go_simp
      refine (HSR.out _ (by assumption)).mono ?_
      rintro e w10 ⟨rfl, hb10⟩
      have hq10 := HU.out _ _ (by assumption) hb10
      clear hb10
      go_wp2_with fail
      refine hK.out _ _ (by assumption) (fun _ => ?_)
      clear hK K
      try simp only [Act.put, List.setIfInBounds_toArray, List.set_cons_zero, List.set_cons_succ]
      refine wpAnyH_take (i := 20) (v := ?_) (oper_at (r := _) rfl) (by kernel_rfl) (by kernel_rfl) (by kernel_rfl) (fun _ _ _ h => h) (Or.inl ⟨by rfl, ?_⟩) (by assumption) ?_
      rotate_left
      · intro w hSw; try dsimp only at hSw
        go_simp
        try with_reducible rfl
      try simp only [Act.put, List.setIfInBounds_toArray, List.set_cons_zero, List.set_cons_succ]
      refine wpAnyH_take (i := 21) (v := ?_) (oper_at (r := _) rfl) (by kernel_rfl) (by kernel_rfl) (by kernel_rfl) (fun _ _ _ h => h) (Or.inl ⟨by rfl, ?_⟩) (by assumption) ?_
      rotate_left
      · intro w hSw; try dsimp only at hSw
        go_simp
        try with_reducible rfl
      try simp only [Act.put, List.setIfInBounds_toArray, List.set_cons_zero, List.set_cons_succ]
      refine wpAnyH_take (i := 22) (v := ?_) (oper_at (r := _) rfl) (by kernel_rfl) (by kernel_rfl) (by kernel_rfl) (fun _ _ _ h => h) (Or.inl ⟨by rfl, ?_⟩) (by assumption) ?_
      rotate_left
      · intro w hSw; try dsimp only at hSw
        go_simp
        try with_reducible rfl
      try simp only [Act.put, List.setIfInBounds_toArray, List.set_cons_zero, List.set_cons_succ]
      refine wpAnyH_take (i := 23) (v := ?_) (oper_at (r := _) rfl) (by kernel_rfl) (by kernel_rfl) (by kernel_rfl) (fun _ _ _ h => h) (Or.inl ⟨by rfl, ?_⟩) (by assumption) ?_
      rotate_left
      · intro w hSw; try dsimp only at hSw
        go_simp
        try with_reducible rfl
      try simp only [Act.put, List.setIfInBounds_toArray, List.set_cons_zero, List.set_cons_succ]
      refine wpAnyH_ready (rs := [24]) (by kernel_rfl) (by simp) ?_
      refine AllReadyH.cons (oper_at (r := _) rfl) (fun K hK => ?_) AllReadyH.nil
      go_simp
      refine (HCP.out _ (by first | assumption | exact HSd.out)).mono ?_
      rintro e w7 ⟨⟨Xn, xn, Xe, xe, rfl, hX⟩, hb7⟩
      have hq7 := HU.out _ _ (by first | assumption | exact HSd.out) hb7
      clear hb7
      go_wp2_with fail
      refine hK.out _ _ (by assumption) (fun _ => ?_)
      clear hK K
      try simp only [Act.put, List.setIfInBounds_toArray, List.set_cons_zero, List.set_cons_succ]
      refine wpAnyH_ready (rs := [25]) (by kernel_rfl) (by simp) ?_
      refine AllReadyH.cons (oper_at (r := _) rfl) (fun K hK => ?_) AllReadyH.nil
      go_simp
      refine (HSP.out _ _ _ _ _ (by assumption) (by assumption)).mono ?_
      rintro e w12 ⟨rfl, hb12⟩
      have hq12 := HU.out _ _ (by assumption) hb12
      clear hb12
      go_wp2_with fail
      refine hK.out _ _ (by assumption) (fun _ => ?_)
      clear hK K
      try simp only [Act.put, List.setIfInBounds_toArray, List.set_cons_zero, List.set_cons_succ]
      refine wpAnyH_take (i := 26) (v := ?_) (oper_at (r := _) rfl) (by kernel_rfl) (by kernel_rfl) (by kernel_rfl) (fun _ _ _ h => h) (Or.inl ⟨by rfl, ?_⟩) (by assumption) ?_
      rotate_left
      · intro w hSw; try dsimp only at hSw
        go_simp
        try with_reducible rfl
      try simp only [Act.put, List.setIfInBounds_toArray, List.set_cons_zero, List.set_cons_succ]
      refine wpAnyH_take (i := 27) (v := ?_) (oper_at (r := _) rfl) (by kernel_rfl) (by kernel_rfl) (by kernel_rfl) (fun _ _ _ h => h) (Or.inl ⟨by rfl, ?_⟩) (by assumption) ?_
      rotate_left
      · intro w hSw; try dsimp only at hSw
        go_simp
        try with_reducible rfl
      try simp only [Act.put, List.setIfInBounds_toArray, List.set_cons_zero, List.set_cons_succ]
      refine wpAnyH_take (i := 28) (v := ?_) (oper_at (r := _) rfl) (by kernel_rfl) (by kernel_rfl) (by kernel_rfl) (fun _ _ _ h => h) (Or.inl ⟨by rfl, ?_⟩) (by assumption) ?_
      rotate_left
      · intro w hSw; try dsimp only at hSw
        go_simp
        try with_reducible rfl
      try simp only [Act.put, List.setIfInBounds_toArray, List.set_cons_zero, List.set_cons_succ]
      refine wpAnyH_take (i := 29) (v := ?_) (oper_at (r := _) rfl) (by kernel_rfl) (by kernel_rfl) (by kernel_rfl) (fun _ _ _ h => h) (Or.inl ⟨by rfl, ?_⟩) (by assumption) ?_
      rotate_left
      · intro w hSw; try dsimp only at hSw
        go_simp
        try with_reducible rfl
      try simp only [Act.put, List.setIfInBounds_toArray, List.set_cons_zero, List.set_cons_succ]
      refine wpAnyH_take (i := 30) (v := ?_) (oper_at (r := _) rfl) (by kernel_rfl) (by kernel_rfl) (by kernel_rfl) (fun _ _ _ h => h) (Or.inl ⟨by rfl, ?_⟩) (by assumption) ?_
      rotate_left
      · intro w hSw; try dsimp only at hSw
        go_simp
        try with_reducible rfl
      try simp only [Act.put, List.setIfInBounds_toArray, List.set_cons_zero, List.set_cons_succ]
      refine wpAnyH_take (i := 31) (v := undef) (oper_at (r := _) rfl) (by kernel_rfl) (by kernel_rfl) (by kernel_rfl) (fun _ _ _ h => h) (Or.inr ⟨by rfl, rfl⟩) (by assumption) ?_
      try simp only [Act.put, List.setIfInBounds_toArray, List.set_cons_zero, List.set_cons_succ]
      refine wpAnyH_take (i := 32) (v := undef) (oper_at (r := _) rfl) (by kernel_rfl) (by kernel_rfl) (by kernel_rfl) (fun _ _ _ h => h) (Or.inr ⟨by rfl, rfl⟩) (by assumption) ?_
      try simp only [Act.put, List.setIfInBounds_toArray, List.set_cons_zero, List.set_cons_succ]
      refine wpAnyH_ready (rs := [33]) (by kernel_rfl) (by simp) ?_
      refine AllReadyH.cons (oper_at (r := _) rfl) (fun K hK => ?_) AllReadyH.nil
      rw [if_neg (by rw [show Region.wanted _ _ = false from rfl]; exact Bool.false_ne_true)]
      refine hK.out _ _ (by assumption) (fun _ => ?_)
      clear hK K
      try simp only [Act.put, List.setIfInBounds_toArray, List.set_cons_zero, List.set_cons_succ]
      refine wpAnyH_take (i := 34) (v := undef) (oper_at (r := _) rfl) (by kernel_rfl) (by kernel_rfl) (by kernel_rfl) (fun _ _ _ h => h) (Or.inr ⟨by rfl, rfl⟩) (by assumption) ?_
      try simp only [Act.put, List.setIfInBounds_toArray, List.set_cons_zero, List.set_cons_succ]
      refine wpAnyH_take (i := 35) (v := ?_) (oper_at (r := _) rfl) (by kernel_rfl) (by kernel_rfl) (by kernel_rfl) (fun _ _ _ h => h) (Or.inl ⟨by rfl, ?_⟩) (by assumption) ?_
      rotate_left
      · intro w hSw; try dsimp only at hSw
        go_simp
        try with_reducible rfl
      try simp only [Act.put, List.setIfInBounds_toArray, List.set_cons_zero, List.set_cons_succ]
      refine wpAnyH_take (i := 36) (v := ?_) (oper_at (r := _) rfl) (by kernel_rfl) (by kernel_rfl) (by kernel_rfl) (fun _ _ _ h => h) (Or.inl ⟨by rfl, ?_⟩) (by assumption) ?_
      rotate_left
      · intro w hSw; try dsimp only at hSw
        go_simp
        try with_reducible rfl
      try simp only [Act.put, List.setIfInBounds_toArray, List.set_cons_zero, List.set_cons_succ]
      refine wpAnyH_take (i := 37) (v := ?_) (oper_at (r := _) rfl) (by kernel_rfl) (by kernel_rfl) (by kernel_rfl) (fun _ _ _ h => h) (Or.inl ⟨by rfl, ?_⟩) (by assumption) ?_
      rotate_left
      · intro w hSw; try dsimp only at hSw
        go_simp
        try with_reducible rfl
      try simp only [Act.put, List.setIfInBounds_toArray, List.set_cons_zero, List.set_cons_succ]
      refine wpAnyH_done (by kernel_rfl) ?_ _
      have HBF := Lib.hid hq12.2.be
      go_wp2_with fail
      go_ret
      exact ⟨rfl, HBF.out⟩

end Go.Proofs.Ytiafmhdicgmfaaa
