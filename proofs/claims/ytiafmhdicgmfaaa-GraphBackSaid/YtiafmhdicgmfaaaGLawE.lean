/-
  Graphs: GraphEdge.
-/
import Derived.Test.YtiafmhdicgmfaaaGLaw
import Derived.Deep.DeepCutAuto
namespace Go.Proofs.Ytiafmhdicgmfaaa
open Go.RowKit

/-- elements whose cells hold no slice -/
def NoSl {α : Type} (E : El α) : Prop := ∀ x u, u ∈ E.enc x → ∀ a n c, u ≠ .slice a n c
theorem noSl_int : NoSl EInt := fun x u h a n c e => by simp [EInt] at h; rw [h] at e; cases e
theorem noSl_ed : NoSl EEd := fun x u h a n c e => by simp [EEd] at h; rcases h with h | h | h <;> · rw [h] at e; cases e
/-- a store into a box of slices turns no slice of plain elements -/
theorem Reads.setBox {α : Type} {E : El α} (hE : NoSl E) {w : World} {B : Nat} {A : Option Addr} {xs : List α} (h : Reads E w B A xs) {g : Nat} {a a' : Option Addr} {n c n' c' : Nat} {t : TypeId} (hb : BoxIs g (.slice a n c) (.slice a' n' c') t w) (j : Nat) (y : Value) : Reads E (w.setCell ⟨g, j, none⟩ y) B A xs := by
  rcases h with h | ⟨b, off, h1, h2, h3⟩
  · exact .inl h
  · refine .inr ⟨b, off, h1, h2, fun i x hx q u hu => ?_⟩
    have hc := h3 i x hx q u hu
    have hne : g ≠ b := fun e => by
      subst e
      rw [cell_of_row _ _ _ _ _ _ hb] at hc
      have hm : u ∈ (#[Value.slice a n c, Value.slice a' n' c'] : Array Value) := Array.mem_of_getElem? hc
      simp at hm
      rcases hm with hm | hm <;> exact hE x u (List.mem_of_getElem? hu) _ _ _ hm
    rw [World.cell?_setCell_far _ _ _ _ hne]
    exact hc
theorem GrAt.setBox {w : World} {An : Option Addr} {cn : Nat} {Ae : Option Addr} {ce : Nat} {x : Gr} (h : GrAt w An cn Ae ce x) {g : Nat} {a a' : Option Addr} {n c n' c' : Nat} {t : TypeId} (hb : BoxIs g (.slice a n c) (.slice a' n' c') t w) (j : Nat) (y : Value) : GrAt (w.setCell ⟨g, j, none⟩ y) An cn Ae ce x :=
  ⟨by have := h.ns.setBox noSl_int hb j y; simpa using this, by have := h.es.setBox noSl_ed hb j y; simpa using this, h.cn, h.ce⟩
/-- a graph is written into a box -/
theorem GB.store {w : World} {An : Option Addr} {cn : Nat} {Ae : Option Addr} {ce : Nat} {x : Gr} (h : GrAt w An cn Ae ce x) {g : Nat} {a a' : Option Addr} {n c n' c' : Nat} (hb : BoxIs g (.slice a n c) (.slice a' n' c') 25 w) :
    GB g An cn Ae ce x ((w.setCell ⟨g, 0, none⟩ (.slice An x.ns.length cn)).setCell ⟨g, 1, none⟩ (.slice Ae x.es.length ce)) :=
  ⟨(hb.set0 _).set1 _, (h.setBox hb 0 _).setBox (hb.set0 _) 1 _⟩

/-- the argument's box, the edge's box -/
abbrev SE (w : World) (u v : Value) (x : Ed) (W : World) : Prop :=
  (C2 w.heap.size u v W ∧ W.cell? ⟨w.heap.size + 1, 0, none⟩ = some (.int .i64 x.ty) ∧ W.cell? ⟨w.heap.size + 1, 1, none⟩ = some (.int .i64 x.fr) ∧ W.cell? ⟨w.heap.size + 1, 2, none⟩ = some (.int .i64 x.to)) ∧ BoxIs w.heap.size u v 25 W ∧ EdIs (w.heap.size + 1) x W ∧ Below w.heap.size w W
section
variable {w W W' : World} {u v : Value} {x : Ed}
theorem SE.mk (h1 : BoxIs w.heap.size u v 25 W) (h2 : EdIs (w.heap.size + 1) x W) (h3 : Below w.heap.size w W) : SE w u v x W := ⟨⟨h1.cells, cell3 h2⟩, h1, h2, h3⟩
theorem SE.up (h : SE w u v x W) (hb : Below W.heap.size W W') : SE w u v x W' := SE.mk (h.2.1.up hb) (heap_up hb h.2.2.1) (h.2.2.2.trans (hb.mono h.2.2.2.size))
theorem SE.set (h : SE w u v x W) {p : Addr} (hp : w.heap.size + 2 ≤ p.block) (y : Value) : SE w u v x (W.setCell p y) :=
  SE.mk (h.2.1.set (by omega) y) ((Below.heap_setCell W p y (w.heap.size + 1) (by omega)).trans h.2.2.1) (h.2.2.2.setCell (by omega) y)
theorem SE.lt (h : SE w u v x W) : w.heap.size + 1 < W.heap.size := heap_lt h.2.2.1
end

theorem addEG_ne {g : Gr} {x : Ed} (h : addEE g x = 0) : decide (addEG g x = g) = false := by
  rw [decide_eq_false_iff_not]
  unfold addEG
  rw [if_pos h]
  intro e
  have : (g.es ++ [x]).length = g.es.length := congrArg (fun x => x.es.length) e
  simp at this

set_option maxRecDepth 100000 in
set_option maxHeartbeats 4000000 in
theorem lawEdge (g : Gr) (An : Option Addr) (cn : Nat) (Ae : Option Addr) (ce : Nat) (x : Ed) (w : World) (hT : GrAt w An cn Ae ce g) :
    Calls Try.prog 4 #[gval An g.ns.length cn Ae g.es.length ce, edv x] w fun e w' => e = .returned (.bool true) ∧ Below w.heap.size w w' := by
  have HT := Lib.hid hT
  have HS0 := Lib.hid (show SE w (.slice An g.ns.length cn) (.slice Ae g.es.length ce) x ((w.alloc (.cells #[.slice An g.ns.length cn, .slice Ae g.es.length ce] 25 (0, 0))).alloc (.cells #[.int .i64 x.ty, .int .i64 x.fr, .int .i64 x.to] 36 (0, 0))) from SE.mk (heap_two _ _ _) (heap_two' _ _ _) (below_aa _ _ _))
  have HU := Lib.hid (fun W W' (h : SE w (.slice An g.ns.length cn) (.slice Ae g.es.length ce) x W) hb => SE.up (W' := W') h hb)
  have HUA := Lib.hid (fun W o h => HU.out W (W.alloc o) h (below_a _ _))
  have HUAD := Lib.hid (fun W o h => HU.out W (W.alloc o).drew h (below_ad _ _))
  have HST := Lib.hid (fun W (h : SE w (.slice An g.ns.length cn) (.slice Ae g.es.length ce) x W) b (hb : w.heap.size + 2 ≤ b) y z => SE.set (p := ⟨b, 1, none⟩) (SE.set (p := ⟨b, 0, none⟩) h hb y) hb z)
  have HGR := Lib.hid (fun W (h : SE w (.slice An g.ns.length cn) (.slice Ae g.es.length ce) x W) => hT.up h.2.2.2)
  have HNE := Lib.hid (fun h => addEG_ne (g := g) (x := x) h)
  have HAP := Lib.hid (fun An cn Ae ce W => addEP g x An cn Ae ce W)
  have HAR := Lib.hid (fun An cn Ae ce W => addER g x An cn Ae ce W)
  clear hT
  generalize addEE g x = R at HNE HAP HAR
  generalize addEI g x = I at HNE HAP HAR
  generalize addEG g x = G at HNE HAP HAR
  obtain ⟨ty, fr, tt⟩ := x
  go_enter Try.func4, Try.ntmps4
  go_wp2_with fail
  refine (awake_any _).mono ?_
  rintro e w1 ⟨rfl, hb1⟩
  have HS1 := Lib.hid (HU.out _ _ HS0.out hb1)
  clear hb1 HS0
  obtain ⟨⟨⟨c0, c1⟩, c2, c3, c4⟩, _⟩ := HS1.out
  have z0 := HS1.out.lt
  have z1 : w.heap.size < w1.heap.size := by omega
  go_wp2_with fail
  refine (few_any g _ _ _ _ _ (HGR.out _ HS1.out)).mono ?_
  rintro e w2 ⟨rfl, hb2⟩
  have HS2 := Lib.hid (HU.out _ _ HS1.out hb2)
  clear hb2 HS1 c0 c1 c2 c3 c4 z0 z1
  cases hf : fewB g with
  | false =>
    go_wp2_with fail
    refine (awake_any _).mono ?_
    rintro e w3 ⟨rfl, hb3⟩
    have HBF := Lib.hid (HU.out _ _ HS2.out hb3).2.2.2
    clear hb3
    go_wp2_with fail
    go_ret
    exact ⟨rfl, HBF.out⟩
  | true =>
    have HF := Lib.hid hf
    have HCP := Lib.hid (fun W h => copyG_any g An cn Ae ce W hf (HGR.out W h))
    have HS2d := Lib.hid (HU.out _ _ HS2.out (below_d _))
    have z0 := HS2.out.lt
    clear hf
    go_upto_region 3 with (fail)
    go_cut [5, 6, 7] (fun u v z wx => ∃ h5 Dn en De ee, u = .pointer (some ⟨h5, 0, none⟩) ∧ v = .int .i64 (I : Nat) ∧ z = .int .i64 (R : Nat) ∧ GB h5 Dn en De ee G wx ∧ SE w (.slice An g.ns.length cn) (.slice Ae g.es.length ce) ⟨ty, fr, tt⟩ wx)
    case first =>
      go_wp2_with fail
      go_region_held3 (SE w (.slice An g.ns.length cn) (.slice Ae g.es.length ce) ⟨ty, fr, tt⟩)
        (first | assumption | exact HS2d.out | exact HUA.out _ _ (by first | assumption | exact HS2d.out) | exact HUAD.out _ _ (by first | assumption | exact HS2.out) | exact HST.out _ (by assumption) _ (by omega) _ _)
        ((first
          | ((with_reducible refine (HCP.out _ (by first | assumption | exact HS2d.out)).mono ?_); rintro e w3 ⟨⟨Cn, fn, Ce, fe, rfl, hC⟩, hb3⟩; have hq3 := HU.out _ _ (by first | assumption | exact HS2d.out) hb3; obtain ⟨hc3, hf3⟩ := bcell hb3; have hz3 := SE.lt hq3; (try (have hy3 : w2.heap.size < w3.heap.size := by have := hb3.size; simp at this; omega)))
          | ((with_reducible refine (HAP.out _ _ _ _ _ (by first | assumption | exact GrAt.up (by assumption) (below_a _ _))).mono ?_); rintro e w4 ⟨⟨v, rfl, ⟨Dn, en, De, ee, rfl, hD⟩⟩, hb4⟩; have hq4 := HU.out _ _ (by assumption) hb4; obtain ⟨hc4, hf4⟩ := bcell hb4; have hz4 := SE.lt hq4; (try (have hy4 : w3.heap.size < w4.heap.size := by have := hb4.size; simp at this; omega)))))
      · have HGB := Lib.hid (GB.start hD)
        have HSE := Lib.hid (HUA.out _ (.cells #[.slice Dn G.ns.length en, .slice De G.es.length ee] 25 (0, 0)) hq4)
        clear hD hq4 hb4 hb3 hq3 hc3 hf3 hc4 hf4 hC
        go_wp2_with fail
        go_meet
        exact ⟨_, _, _, _, _, rfl, rfl, rfl, HGB.out, HSE.out⟩
      · have HGB := Lib.hid (GB.store hD (show BoxIs w3.heap.size (.slice none 0 0) (.slice none 0 0) 25 w4 from BoxIs.up (heap_alloc_new _ _) hb4))
        have HSE := Lib.hid (HST.out _ hq4 w3.heap.size (by omega) (.slice Dn G.ns.length en) (.slice De G.es.length ee))
        clear hD hq4 hb4 hb3 hq3 hc3 hf3 hc4 hf4 hC
        go_wp2_with fail
        go_meet
        exact ⟨_, _, _, _, _, rfl, rfl, rfl, HGB.out, HSE.out⟩
      · have HGB := Lib.hid (GB.store hD (show BoxIs w2.heap.size (.slice none 0 0) (.slice none 0 0) 25 w4 from BoxIs.up (BoxIs.up (BoxIs.up (heap_alloc_new w2 _) (below_d _)) hb3) hb4))
        have HSE := Lib.hid (HST.out _ hq4 w2.heap.size (by omega) (.slice Dn G.ns.length en) (.slice De G.es.length ee))
        clear hD hq4 hb4 hb3 hq3 hc3 hf3 hc4 hf4 hC
        go_wp2_with fail
        go_meet
        exact ⟨_, _, _, _, _, rfl, rfl, rfl, HGB.out, HSE.out⟩
    case rest =>
      obtain ⟨h5, Dn, en, De, ee, rfl, rfl, rfl, hgb, hse⟩ := hcut
      have z1 := hse.lt
      have hse' := hse
      obtain ⟨⟨⟨c0, c1⟩, c2, c3, c4⟩, _⟩ := hse'
      have z2 : w.heap.size < wc.heap.size := by omega
      have HSC := Lib.hid hse
      have HGC := Lib.hid hgb
      clear hse hgb HS2 HS2d HCP HAP
      go_wp2_with fail
      refine (HAR.out _ _ _ _ _ (HGR.out _ HSC.out)).mono ?_
      rintro e w5 ⟨⟨v, rfl, ⟨En, hn, Ee, he, rfl, hE⟩⟩, hb5⟩
      have HS5 := Lib.hid (HU.out _ _ HSC.out hb5)
      have HG5 := Lib.hid (HGC.out.up hb5)
      have HE := Lib.hid hE
      clear hb5 hE HSC HGC HAR c0 c1 c2 c3 c4 z1 z2
      have HS6 := Lib.hid (HUA.out _ (.cells #[.slice En G.ns.length hn, .slice Ee G.es.length he] 25 (0, 0)) HS5.out)
      have HG6 := Lib.hid (HG5.out.up (below_a w5 (.cells #[.slice En G.ns.length hn, .slice Ee G.es.length he] 25 (0, 0))))
      have HE6 := Lib.hid (GB.start HE.out)
      obtain ⟨c0, c1⟩ := HG5.out.cells
      have z0 := HG5.out.lt
      have tR : ((R : Int) == (R : Int)) = true := by simp
      have tI : ((I : Int) == (I : Int)) = true := by simp
      clear HS5 HE
      go_wp2_with fail
      refine (sameR_any G G _ _ _ _ _ _ _ _ _ HG6.out.gr HE6.out.gr).mono ?_
      rintro e w7 ⟨rfl, hb7⟩
      have HS7 := Lib.hid (HU.out _ _ HS6.out hb7)
      have HG7 := Lib.hid (HG6.out.up hb7)
      have HE7 := Lib.hid (HE6.out.up hb7)
      clear hb7 HS6 HG6 HE6 HG5 c0 c1 z0
      rw [decide_eq_true (p := G = G) rfl]
      by_cases hR : R = 0
      · have HN := Lib.hid (HNE.out hR)
        have t0 : ((R : Int) != 0) = false := by simp; omega
        clear hR HNE
        obtain ⟨c0, c1⟩ := HG7.out.cells
        have z0 := HG7.out.lt
        have hs7 := HS7.out
        obtain ⟨⟨⟨c2, c3⟩, _⟩, _⟩ := hs7
        have z1 := HS7.out.lt
        have z2 : w.heap.size < w7.heap.size := by omega
        go_wp2_with fail
        refine (sameP_any G g _ _ _ _ _ _ _ _ _ HG7.out.gr (HGR.out _ HS7.out)).mono ?_
        rintro e w8 ⟨rfl, hb8⟩
        have HS8 := Lib.hid (HU.out _ _ HS7.out hb8)
        have HG8 := Lib.hid (HG7.out.up hb8)
        have HE8 := Lib.hid (HE7.out.up hb8)
        clear hb8 HS7 HG7 HE7 c0 c1 z0 c2 c3 z1 z2
        rw [HN.out]
        obtain ⟨c0, c1⟩ := HG8.out.cells
        have z0 := HG8.out.lt
        obtain ⟨c2, c3⟩ := HE8.out.cells
        have z1 := HE8.out.lt
        go_wp2_with fail
        refine (sameP_any G G _ _ _ _ _ _ _ _ _ HG8.out.gr HE8.out.gr).mono ?_
        rintro e w9 ⟨rfl, hb9⟩
        have HBF := Lib.hid (HU.out _ _ HS8.out hb9).2.2.2
        clear hb9
        rw [decide_eq_true (p := G = G) rfl]
        go_wp2_with fail
        go_ret
        exact ⟨rfl, HBF.out⟩
      · have t0 : ((R : Int) != 0) = true := by simp; omega
        have HBF := Lib.hid HS7.out.2.2.2
        clear hR HNE
        go_wp2_with fail
        go_ret
        exact ⟨rfl, HBF.out⟩

end Go.Proofs.Ytiafmhdicgmfaaa
