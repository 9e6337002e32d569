/-
  Graphs, the program: Union. (Printed by mkunip.py.)
-/
import Derived.Test.YtiafmhdicgmfaaaGFr2
import Derived.Test.YtiafmhdicgmfaaaGChk
import Derived.Test.YtiafmhdicgmfaaaGNum
import Derived.Test.YtiafmhdicgmfaaaGSl
import Derived.Deep.DeepCutAuto
namespace Go.Proofs.Ytiafmhdicgmfaaa
open Go.RowKit

def UniC (f : FuncId) : Prop := ∀ (a b : Gr) (An : Option Addr) (cn : Nat) (Ae : Option Addr) (ce : Nat) (Bn : Option Addr) (dn : Nat) (Be : Option Addr) (de : Nat) (w : World), GrAt w An cn Ae ce a → GrAt w Bn dn Be de b →
  Calls Try.prog f #[gval An a.ns.length cn Ae a.es.length ce, gval Bn b.ns.length dn Be b.es.length de] w fun e w' => (∃ v p q, e = .returned (.tuple #[v, p, q, .int .i64 (uniE a b : Nat)]) ∧ IsG w' v (uniG a b) ∧ IsM w' p (uniM a b) ∧ IsM w' q (uniN a b)) ∧ Below w.heap.size w w'

abbrev D2 (h : Nat) (u v : Value) (W : World) : Prop := W.cell? ⟨h, 0, none⟩ = some u ∧ W.cell? ⟨h, 1, none⟩ = some v
/-- two boxes that are read, three results that are written -/
structure UX (w : World) (u0 v0 u1 v1 : Value) (W : World) : Prop where
  b0 : BoxIs w.heap.size u0 v0 25 W
  b1 : BoxIs (w.heap.size + 1) u1 v1 25 W
  r2 : Blk (w.heap.size + 2) 25 W
  r3 : Blk (w.heap.size + 3) 40 W
  r4 : Blk (w.heap.size + 4) 40 W
  be : Below w.heap.size w W
theorem UX.up {w : World} {u0 v0 u1 v1 : Value} {W W' : World} (h : UX w u0 v0 u1 v1 W) (hb : Below W.heap.size W W') : UX w u0 v0 u1 v1 W' := ⟨h.b0.up hb, h.b1.up hb, h.r2.up hb, h.r3.up hb, h.r4.up hb, h.be.trans (hb.mono h.be.size)⟩
theorem UX.lt {w : World} {u0 v0 u1 v1 : Value} {W : World} (h : UX w u0 v0 u1 v1 W) : w.heap.size + 5 ≤ W.heap.size := by
  obtain ⟨x, y, hh⟩ := h.r4
  have := heap_lt hh
  omega
theorem UX.start (w : World) (u0 v0 u1 v1 a b c d e f : Value) : UX w u0 v0 u1 v1 (((((w.alloc (.cells #[u0, v0] 25 (0, 0))).alloc (.cells #[u1, v1] 25 (0, 0))).alloc (.cells #[a, b] 25 (0, 0))).alloc (.cells #[c, d] 40 (0, 0))).alloc (.cells #[e, f] 40 (0, 0))) := by
  have h0 := heap_two w (.cells #[u0, v0] 25 (0, 0)) (.cells #[u1, v1] 25 (0, 0))
  have h1 := heap_two' w (.cells #[u0, v0] 25 (0, 0)) (.cells #[u1, v1] 25 (0, 0))
  generalize hW2 : (w.alloc (.cells #[u0, v0] 25 (0, 0))).alloc (.cells #[u1, v1] 25 (0, 0)) = W2 at h0 h1 ⊢
  have hs : W2.heap.size = w.heap.size + 2 := by rw [← hW2]; simp
  have hb : Below w.heap.size w W2 := by rw [← hW2]; exact ((Below.refl _ _).alloc (Nat.le_refl _) _).alloc (by simp) _
  have h2 := heap_two W2 (.cells #[a, b] 25 (0, 0)) (.cells #[c, d] 40 (0, 0))
  have h3 := heap_two' W2 (.cells #[a, b] 25 (0, 0)) (.cells #[c, d] 40 (0, 0))
  have hb2 : Below W2.heap.size W2 ((W2.alloc (.cells #[a, b] 25 (0, 0))).alloc (.cells #[c, d] 40 (0, 0))) := ((Below.refl _ _).alloc (Nat.le_refl _) _).alloc (by simp) _
  have hs4 : ((W2.alloc (.cells #[a, b] 25 (0, 0))).alloc (.cells #[c, d] 40 (0, 0))).heap.size = w.heap.size + 4 := by simp; omega
  generalize (W2.alloc (.cells #[a, b] 25 (0, 0))).alloc (.cells #[c, d] 40 (0, 0)) = W4 at h2 h3 hb2 hs4 ⊢
  have h4 := heap_alloc_new W4 (.cells #[e, f] 40 (0, 0))
  rw [hs] at h2 h3
  rw [hs4] at h4
  have hb4 := below_a W4 (.cells #[e, f] 40 (0, 0))
  have hb24 := hb2.trans (hb4.mono hb2.size)
  exact ⟨heap_up hb24 h0, heap_up hb24 h1, ⟨a, b, heap_up hb4 h2⟩, ⟨c, d, heap_up hb4 h3⟩, ⟨e, f, h4⟩, hb.trans (hb24.mono hb.size)⟩
abbrev set6 (W : World) (h : Nat) (a b c d e f : Value) : World := (((((W.setCell ⟨h + 2, 0, none⟩ a).setCell ⟨h + 2, 1, none⟩ b).setCell ⟨h + 3, 0, none⟩ c).setCell ⟨h + 3, 1, none⟩ d).setCell ⟨h + 4, 0, none⟩ e).setCell ⟨h + 4, 1, none⟩ f
theorem UX.store {w : World} {u0 v0 u1 v1 : Value} {W : World} (h : UX w u0 v0 u1 v1 W) (a b c d e f : Value) : Below w.heap.size w (set6 W w.heap.size a b c d e f) ∧ D2 (w.heap.size + 2) a b (set6 W w.heap.size a b c d e f) ∧ D2 (w.heap.size + 3) c d (set6 W w.heap.size a b c d e f) ∧ D2 (w.heap.size + 4) e f (set6 W w.heap.size a b c d e f) := by
  have h1 := store2 h.r2 a b
  have k3 : Blk (w.heap.size + 3) 40 ((W.setCell ⟨w.heap.size + 2, 0, none⟩ a).setCell ⟨w.heap.size + 2, 1, none⟩ b) := (h.r3.set (by simp) _).set (by simp) _
  have h3 := store2 k3 c d
  have k4 : Blk (w.heap.size + 4) 40 ((((W.setCell ⟨w.heap.size + 2, 0, none⟩ a).setCell ⟨w.heap.size + 2, 1, none⟩ b).setCell ⟨w.heap.size + 3, 0, none⟩ c).setCell ⟨w.heap.size + 3, 1, none⟩ d) := (((((h.r4.set (by simp) _).set (by simp) _).set (by simp) _).set (by simp) _))
  have h4 := store2 k4 e f
  refine ⟨((((((h.be.setCell (by simp) _).setCell (by simp) _).setCell (by simp) _).setCell (by simp) _).setCell (by simp) _).setCell (by simp) _), ?_, ?_, cell2 h4⟩
  · exact cell2 ((Below.heap_setCell _ _ _ _ (by simp)).trans ((Below.heap_setCell _ _ _ _ (by simp)).trans ((Below.heap_setCell _ _ _ _ (by simp)).trans ((Below.heap_setCell _ _ _ _ (by simp)).trans h1))))
  · exact cell2 ((Below.heap_setCell _ _ _ _ (by simp)).trans ((Below.heap_setCell _ _ _ _ (by simp)).trans h3))
theorem OwnE.set6 {α : Type} {E : El α} {t : TypeId} {W : World} {base h : Nat} {v : Value} {xs : List α} (ho : OwnE E t W base v xs) (hh : h + 5 ≤ base) (a b c d e f : Value) : OwnE E t (Go.Proofs.Ytiafmhdicgmfaaa.set6 W h a b c d e f) base v xs :=
  ownsRow_setCell_below (ownsRow_setCell_below (ownsRow_setCell_below (ownsRow_setCell_below (ownsRow_setCell_below (ownsRow_setCell_below ho (a := ⟨h + 2, 0, none⟩) (show h + 2 < base by omega) a) (a := ⟨h + 2, 1, none⟩) (show h + 2 < base by omega) b) (a := ⟨h + 3, 0, none⟩) (show h + 3 < base by omega) c) (a := ⟨h + 3, 1, none⟩) (show h + 3 < base by omega) d) (a := ⟨h + 4, 0, none⟩) (show h + 4 < base by omega) e) (a := ⟨h + 4, 1, none⟩) (show h + 4 < base by omega) f
/-- two boxes read the same since wz -/
abbrev SB (h : Nat) (u0 v0 u1 v1 : Value) (wz W : World) : Prop := (D2 h u0 v0 W ∧ D2 (h + 1) u1 v1 W) ∧ Below wz.heap.size wz W
theorem SB.mk {h : Nat} {u0 v0 u1 v1 : Value} {wz W : World} (hh : h + 1 < wz.heap.size) (c0 : D2 h u0 v0 wz) (c1 : D2 (h + 1) u1 v1 wz) (hb : Below wz.heap.size wz W) : SB h u0 v0 u1 v1 wz W :=
  ⟨⟨⟨(hb.cell (p := ⟨h, 0, none⟩) (show h < _ by omega)).trans c0.1, (hb.cell (p := ⟨h, 1, none⟩) (show h < _ by omega)).trans c0.2⟩, ⟨(hb.cell (p := ⟨h + 1, 0, none⟩) hh).trans c1.1, (hb.cell (p := ⟨h + 1, 1, none⟩) hh).trans c1.2⟩⟩, hb⟩
theorem uni_es (a b : Gr) : a.es ++ coll (fun i => [shE a.ns.length (b.es.getD i default)]) b.es.length = a.es ++ b.es.map (shE a.ns.length) := by
  have h := coll_map (shE a.ns.length) (fun i => [b.es.getD i default]) b.es.length
  rw [coll_self] at h
  rw [h]
  rfl

set_option maxRecDepth 100000 in
set_option maxHeartbeats 8000000 in
theorem uniP : UniC 25 := by
  intro a b An cn Ae ce Bn dn Be de w hT hU
  have hs1 := UX.start w (.slice An a.ns.length cn) (.slice Ae a.es.length ce) (.slice Bn b.ns.length dn) (.slice Be b.es.length de) (.slice none 0 0) (.slice none 0 0) (.slice none 0 0) (.slice none 0 0) (.slice none 0 0) (.slice none 0 0)
  have HC := Lib.hid (checkUnion_any a b An cn Ae ce Bn dn Be de _ (hT.up hs1.be) (hU.up hs1.be))
  have HUX := Lib.hid (fun W W' h hb => UX.up (w := w) (u0 := .slice An a.ns.length cn) (v0 := .slice Ae a.es.length ce) (u1 := .slice Bn b.ns.length dn) (v1 := .slice Be b.es.length de) (W := W) (W' := W') h hb)
  have HZ := Lib.hid (fun h => uni_zero (a := a) (b := b) h)
  have HG : Hid (uniG a b = if uniE a b = 0 then ⟨a.ns ++ b.ns, a.es ++ b.es.map (shE a.ns.length)⟩ else noG) := Lib.hid rfl
  have HM : Hid (uniM a b = if uniE a b = 0 then ⟨numS 0 a.ns.length, numS 0 a.es.length⟩ else noM) := Lib.hid rfl
  have HN : Hid (uniN a b = if uniE a b = 0 then ⟨numS a.ns.length b.ns.length, numS a.es.length b.es.length⟩ else noM) := Lib.hid rfl
  have HTA := Lib.hid hT
  have HTB := Lib.hid hU
  have HS1 := Lib.hid hs1
  clear hT hU hs1
  generalize uniG a b = rg at HG ⊢
  generalize uniM a b = rm at HM ⊢
  generalize uniN a b = rn at HN ⊢
  generalize uniE a b = R at HC HZ HG HM HN ⊢
  go_enter Try.func25, Try.ntmps25
  go_wp2_with fail
  refine HC.out.mono ?_
  rintro e w1 ⟨rfl, hb1⟩
  have HQ1 := Lib.hid (HUX.out _ _ HS1.out hb1)
  clear hb1 HS1 HC
  have z5 := HQ1.out.lt
  obtain ⟨c0, c1⟩ := HQ1.out.b0.cells
  obtain ⟨c2, c3⟩ := HQ1.out.b1.cells
  obtain ⟨⟨p0, p1⟩, f0, f1⟩ := HQ1.out.r2.sto
  obtain ⟨⟨p2, p3⟩, f2, f3⟩ := HQ1.out.r3.sto
  obtain ⟨⟨p4, p5⟩, f4, f5⟩ := HQ1.out.r4.sto
  have y0 : w.heap.size < w1.heap.size := by omega
  have y1 : w.heap.size + 1 < w1.heap.size := by omega
  have y2 : w.heap.size + 2 < w1.heap.size := by omega
  have y3 : w.heap.size + 3 < w1.heap.size := by omega
  have y4 : w.heap.size + 4 < w1.heap.size := by omega
  by_cases hR : R = 0
  case neg =>
    have HG2 := Lib.hid (show rg = noG by rw [HG.out, if_neg hR])
    have HM2 := Lib.hid (show rm = noM by rw [HM.out, if_neg hR])
    have HN2 := Lib.hid (show rn = noM by rw [HN.out, if_neg hR])
    have t1 : ((R : Int) != 0) = true := by simp; omega
    clear hR
    go_wp2_with fail
    obtain ⟨hbb, ⟨r0, r1⟩, ⟨r2, r3⟩, ⟨r4, r5⟩⟩ := UX.store HQ1.out (.slice none 0 0) (.slice none 0 0) (.slice none 0 0) (.slice none 0 0) (.slice none 0 0) (.slice none 0 0)
    refine bodyPost_ret (v := .tuple #[gval none 0 0 none 0 0, gval none 0 0 none 0 0, gval none 0 0 none 0 0, .int .i64 (R : Nat)]) (by simp [results, Try.results25, go_sem, r0, r1, r2, r3, r4, r5]) rfl ?_
    exact ⟨⟨_, _, _, rfl, by rw [HG2.out]; exact isG_nil _, by rw [HM2.out]; exact isM_nil _, by rw [HN2.out]; exact isM_nil _⟩, hbb⟩
  subst hR
  obtain ⟨hz1, hz2, l1, l2⟩ := HZ.out rfl
  have HVB := Lib.hid hz2
  have HG2 := Lib.hid (show rg = ⟨a.ns ++ b.ns, a.es ++ b.es.map (shE a.ns.length)⟩ by rw [HG.out, if_pos rfl])
  have HM2 := Lib.hid (show rm = ⟨numS 0 a.ns.length, numS 0 a.es.length⟩ by rw [HM.out, if_pos rfl])
  have HN2 := Lib.hid (show rn = ⟨numS a.ns.length b.ns.length, numS a.es.length b.es.length⟩ by rw [HN.out, if_pos rfl])
  have HLM1 : Hid ((numS 0 a.ns.length).length = a.ns.length) := Lib.hid (numS_len _ _)
  have HLM2 : Hid ((numS 0 a.es.length).length = a.es.length) := Lib.hid (numS_len _ _)
  have HLN1 : Hid ((numS a.ns.length b.ns.length).length = b.ns.length) := Lib.hid (numS_len _ _)
  have HLN2 : Hid ((numS a.es.length b.es.length).length = b.es.length) := Lib.hid (numS_len _ _)
  have HP1 := Lib.hid (fun W => numbersP_any 0 a.ns.length W (Int.le_refl _) (by omega) (by omega))
  have HP2 := Lib.hid (fun W => numbersP_any 0 a.es.length W (Int.le_refl _) (by omega) (by omega))
  have HP3 := Lib.hid (fun W => numbersP_any a.ns.length b.ns.length W (by omega) (by omega) (by omega))
  have HP4 := Lib.hid (fun W => numbersP_any a.es.length b.es.length W (by omega) (by omega) (by omega))
  have HX1 := Lib.hid (fun W (h : Below w1.heap.size w1 W) => HUX.out w1 W HQ1.out h)
  clear HG HM HN HZ hz1 hz2
  have HM1 := Lib.hid (fun W (h : Below w1.heap.size w1 W) => SB.mk (by have := (HX1.out w1 (Below.refl _ _)).lt; omega) (HX1.out w1 (Below.refl _ _)).b0.cells (HX1.out w1 (Below.refl _ _)).b1.cells h)
  have HSd1 := Lib.hid (HM1.out _ (below_d w1))
  clear c0 c1 c2 c3 p0 p1 p2 p3 p4 p5 f0 f1 f2 f3 f4 f5 y2 y3 y4
  go_upto_region 4 with (fail)
  go_cut [9] (fun u wx => ∃ bm a2 k2 a3 k3, u = .pointer (some ⟨bm, 0, none⟩) ∧ Below w1.heap.size w1 wx ∧ BoxIs bm (.slice a2 a.ns.length k2) (.slice a3 a.es.length k3) 40 wx ∧ OwnI wx w1.heap.size (.slice a2 a.ns.length k2) (numS 0 a.ns.length) ∧ OwnI wx w1.heap.size (.slice a3 a.es.length k3) (numS 0 a.es.length) ∧ w1.heap.size ≤ bm)
  case first =>
    go_wp2_with fail
    go_region_held3 (SB w.heap.size (.slice An a.ns.length cn) (.slice Ae a.es.length ce) (.slice Bn b.ns.length dn) (.slice Be b.es.length de) w1)
      (first | assumption | exact HSd1.out | exact HM1.out _ ((show SB _ _ _ _ _ w1 _ from (by first | assumption | exact HSd1.out)).2.trans ((below_a _ _).mono (show SB _ _ _ _ _ w1 _ from (by first | assumption | exact HSd1.out)).2.size)) | exact HM1.out _ (below_ad _ _) | exact HM1.out _ (((show SB _ _ _ _ _ w1 _ from (by assumption)).2.setCell (by first | exact Nat.le_refl _ | exact hq2.2.size) _).setCell (by first | exact Nat.le_refl _ | exact hq2.2.size) _))
      ((first
        | ((with_reducible refine (HP1.out _).mono ?_); rintro e w2 ⟨v2, rfl, ho2, hb2⟩; have hq2 := HM1.out w2 ((show SB _ _ _ _ _ w1 _ from (by first | assumption | exact HSd1.out)).2.trans (hb2.mono (show SB _ _ _ _ _ w1 _ from (by first | assumption | exact HSd1.out)).2.size)); obtain ⟨hc2, hf2⟩ := bcell hb2; (try (have hy2 : w1.heap.size < w2.heap.size := by have := hb2.size; simp at this; omega)); obtain ⟨ao2, cap2, e2⟩ := OwnE.slice ho2; rw [HLM1.out] at e2; subst e2)
        | ((with_reducible refine (HP2.out _).mono ?_); rintro e w3 ⟨v3, rfl, ho3, hb3⟩; have hq3 := HM1.out w3 ((show SB _ _ _ _ _ w1 _ from (by first | assumption | exact HSd1.out)).2.trans (hb3.mono (show SB _ _ _ _ _ w1 _ from (by first | assumption | exact HSd1.out)).2.size)); obtain ⟨hc3, hf3⟩ := bcell hb3; (try (have hy3 : w2.heap.size < w3.heap.size := by have := hb3.size; simp at this; omega)); obtain ⟨ao3, cap3, e3⟩ := OwnE.slice ho3; rw [HLM2.out] at e3; subst e3)))
    · have hbb := hq3.2.size
      have HF1 := Lib.hid (ho2.mono (base' := w1.heap.size) (by simp))
      have HF2 := Lib.hid (ho3.mono (base' := w1.heap.size) hq2.2.size)
      have HF3 := Lib.hid ((HF1.out.below hb3 (Nat.le_refl _)).alloc (.cells #[.slice ao2 a.ns.length cap2, .slice ao3 a.es.length cap3] 40 (0, 0)))
      have HSS := Lib.hid (hq3.2.trans ((below_a w3 (.cells #[.slice ao2 a.ns.length cap2, .slice ao3 a.es.length cap3] 40 (0, 0))).mono hbb))
      clear hc2 hf2 hc3 hf3 ho2 ho3 hb2 hb3 hq2 hq3
      go_wp2_with fail
      go_meet
      exact ⟨_, _, _, _, _, rfl, HSS.out, heap_alloc_new _ _, HF3.out, HF2.out.alloc _, hbb⟩
    · have hbb := hq2.2.size
      have hB : Blk w2.heap.size 40 w3 := Blk.up ⟨_, _, heap_alloc_new _ _⟩ hb3
      have HF1 := Lib.hid (OwnE.store2 ((ho2.mono (base' := w1.heap.size) (by simp)).below ((below_a _ _).trans (hb3.mono (by simp))) (Nat.le_refl _)) hB (by decide) (.slice ao2 a.ns.length cap2) (.slice ao3 a.es.length cap3))
      have HF2 := Lib.hid (OwnE.store2 (ho3.mono (base' := w1.heap.size) (by simp; omega)) hB (by decide) (.slice ao2 a.ns.length cap2) (.slice ao3 a.es.length cap3))
      have HF3 := Lib.hid (store2 hB (.slice ao2 a.ns.length cap2) (.slice ao3 a.es.length cap3))
      have HSS := Lib.hid ((hq3.2.setCell (p := ⟨w2.heap.size, 0, none⟩) hbb (.slice ao2 a.ns.length cap2)).setCell (p := ⟨w2.heap.size, 1, none⟩) hbb (.slice ao3 a.es.length cap3))
      clear hc2 hf2 hc3 hf3 ho2 ho3 hb2 hb3 hq2 hq3 hB
      go_wp2_with fail
      go_meet
      exact ⟨_, _, _, _, _, rfl, HSS.out, HF3.out, HF1.out, HF2.out, hbb⟩
    · have hbb := hq2.2.size
      have hB : Blk w1.heap.size 40 w3 := (Blk.up (Blk.up ⟨_, _, heap_alloc_new w1 _⟩ (below_d _)) hb2).up hb3
      have HF1 := Lib.hid (OwnE.store2 ((ho2.mono (base' := w1.heap.size) (by simp)).below hb3 (Nat.le_refl _)) hB (by decide) (.slice ao2 a.ns.length cap2) (.slice ao3 a.es.length cap3))
      have HF2 := Lib.hid (OwnE.store2 (ho3.mono (base' := w1.heap.size) hbb) hB (by decide) (.slice ao2 a.ns.length cap2) (.slice ao3 a.es.length cap3))
      have HF3 := Lib.hid (store2 hB (.slice ao2 a.ns.length cap2) (.slice ao3 a.es.length cap3))
      have HSS := Lib.hid ((hq3.2.setCell (p := ⟨w1.heap.size, 0, none⟩) (Nat.le_refl _) (.slice ao2 a.ns.length cap2)).setCell (p := ⟨w1.heap.size, 1, none⟩) (Nat.le_refl _) (.slice ao3 a.es.length cap3))
      clear hc2 hf2 hc3 hf3 ho2 ho3 hb2 hb3 hq2 hq3 hB
      go_wp2_with fail
      go_meet
      exact ⟨_, _, _, _, _, rfl, HSS.out, HF3.out, HF1.out, HF2.out, Nat.le_refl _⟩
  case rest =>
    obtain ⟨bm, a2, k2, a3, k3, rfl, hbel1, hbm1, hma1, hmb1, hbb1⟩ := hcut
    obtain ⟨w4, hw4⟩ : ∃ w4, w4 = wc := ⟨_, rfl⟩
    subst hw4
    have HX4 := Lib.hid (fun W (h : Below w4.heap.size w4 W) => HX1.out W (hbel1.trans (h.mono hbel1.size)))
    have HBM1 := Lib.hid hbm1
    have HMA1 := Lib.hid hma1
    have HMB1 := Lib.hid hmb1
    have HBL1 := Lib.hid hbel1
    have hsz1 := hbel1.size
    have hlt1 := heap_lt hbm1
    clear hbm1 hma1 hmb1 hbel1 HM1 HSd1
    have y5 : w.heap.size + 1 < w4.heap.size := by omega
    have y6 : w.heap.size < w4.heap.size := by omega
    obtain ⟨c0, c1⟩ := (HX4.out _ (Below.refl _ _)).b0.cells
    obtain ⟨c2, c3⟩ := (HX4.out _ (Below.refl _ _)).b1.cells
    have HM2 := Lib.hid (fun W (h : Below w4.heap.size w4 W) => SB.mk (by have := (HX4.out w4 (Below.refl _ _)).lt; omega) (HX4.out w4 (Below.refl _ _)).b0.cells (HX4.out w4 (Below.refl _ _)).b1.cells h)
    have HSd2 := Lib.hid (HM2.out _ (below_d w4))
    clear c0 c1 c2 c3
    go_upto_region 5 with (fail)
    go_cut [10] (fun u wx => ∃ bm a2 k2 a3 k3, u = .pointer (some ⟨bm, 0, none⟩) ∧ Below w4.heap.size w4 wx ∧ BoxIs bm (.slice a2 b.ns.length k2) (.slice a3 b.es.length k3) 40 wx ∧ OwnI wx w4.heap.size (.slice a2 b.ns.length k2) (numS a.ns.length b.ns.length) ∧ OwnI wx w4.heap.size (.slice a3 b.es.length k3) (numS a.es.length b.es.length) ∧ w4.heap.size ≤ bm)
    case first =>
      go_wp2_with fail
      go_region_held3 (SB w.heap.size (.slice An a.ns.length cn) (.slice Ae a.es.length ce) (.slice Bn b.ns.length dn) (.slice Be b.es.length de) w4)
        (first | assumption | exact HSd2.out | exact HM2.out _ ((show SB _ _ _ _ _ w4 _ from (by first | assumption | exact HSd2.out)).2.trans ((below_a _ _).mono (show SB _ _ _ _ _ w4 _ from (by first | assumption | exact HSd2.out)).2.size)) | exact HM2.out _ (below_ad _ _) | exact HM2.out _ (((show SB _ _ _ _ _ w4 _ from (by assumption)).2.setCell (by first | exact Nat.le_refl _ | exact hq2.2.size) _).setCell (by first | exact Nat.le_refl _ | exact hq2.2.size) _))
        ((first
          | ((with_reducible refine (HP3.out _).mono ?_); rintro e w2 ⟨v2, rfl, ho2, hb2⟩; have hq2 := HM2.out w2 ((show SB _ _ _ _ _ w4 _ from (by first | assumption | exact HSd2.out)).2.trans (hb2.mono (show SB _ _ _ _ _ w4 _ from (by first | assumption | exact HSd2.out)).2.size)); obtain ⟨hc2, hf2⟩ := bcell hb2; (try (have hy2 : w4.heap.size < w2.heap.size := by have := hb2.size; simp at this; omega)); obtain ⟨ao2, cap2, e2⟩ := OwnE.slice ho2; rw [HLN1.out] at e2; subst e2)
          | ((with_reducible refine (HP4.out _).mono ?_); rintro e w3 ⟨v3, rfl, ho3, hb3⟩; have hq3 := HM2.out w3 ((show SB _ _ _ _ _ w4 _ from (by first | assumption | exact HSd2.out)).2.trans (hb3.mono (show SB _ _ _ _ _ w4 _ from (by first | assumption | exact HSd2.out)).2.size)); obtain ⟨hc3, hf3⟩ := bcell hb3; (try (have hy3 : w2.heap.size < w3.heap.size := by have := hb3.size; simp at this; omega)); obtain ⟨ao3, cap3, e3⟩ := OwnE.slice ho3; rw [HLN2.out] at e3; subst e3)))
      · have hbb := hq3.2.size
        have HF1 := Lib.hid (ho2.mono (base' := w4.heap.size) (by simp))
        have HF2 := Lib.hid (ho3.mono (base' := w4.heap.size) hq2.2.size)
        have HF3 := Lib.hid ((HF1.out.below hb3 (Nat.le_refl _)).alloc (.cells #[.slice ao2 b.ns.length cap2, .slice ao3 b.es.length cap3] 40 (0, 0)))
        have HSS := Lib.hid (hq3.2.trans ((below_a w3 (.cells #[.slice ao2 b.ns.length cap2, .slice ao3 b.es.length cap3] 40 (0, 0))).mono hbb))
        clear hc2 hf2 hc3 hf3 ho2 ho3 hb2 hb3 hq2 hq3
        go_wp2_with fail
        go_meet
        exact ⟨_, _, _, _, _, rfl, HSS.out, heap_alloc_new _ _, HF3.out, HF2.out.alloc _, hbb⟩
      · have hbb := hq2.2.size
        have hB : Blk w2.heap.size 40 w3 := Blk.up ⟨_, _, heap_alloc_new _ _⟩ hb3
        have HF1 := Lib.hid (OwnE.store2 ((ho2.mono (base' := w4.heap.size) (by simp)).below ((below_a _ _).trans (hb3.mono (by simp))) (Nat.le_refl _)) hB (by decide) (.slice ao2 b.ns.length cap2) (.slice ao3 b.es.length cap3))
        have HF2 := Lib.hid (OwnE.store2 (ho3.mono (base' := w4.heap.size) (by simp; omega)) hB (by decide) (.slice ao2 b.ns.length cap2) (.slice ao3 b.es.length cap3))
        have HF3 := Lib.hid (store2 hB (.slice ao2 b.ns.length cap2) (.slice ao3 b.es.length cap3))
        have HSS := Lib.hid ((hq3.2.setCell (p := ⟨w2.heap.size, 0, none⟩) hbb (.slice ao2 b.ns.length cap2)).setCell (p := ⟨w2.heap.size, 1, none⟩) hbb (.slice ao3 b.es.length cap3))
        clear hc2 hf2 hc3 hf3 ho2 ho3 hb2 hb3 hq2 hq3 hB
        go_wp2_with fail
        go_meet
        exact ⟨_, _, _, _, _, rfl, HSS.out, HF3.out, HF1.out, HF2.out, hbb⟩
      · have hbb := hq2.2.size
        have hB : Blk w4.heap.size 40 w3 := (Blk.up (Blk.up ⟨_, _, heap_alloc_new w4 _⟩ (below_d _)) hb2).up hb3
        have HF1 := Lib.hid (OwnE.store2 ((ho2.mono (base' := w4.heap.size) (by simp)).below hb3 (Nat.le_refl _)) hB (by decide) (.slice ao2 b.ns.length cap2) (.slice ao3 b.es.length cap3))
        have HF2 := Lib.hid (OwnE.store2 (ho3.mono (base' := w4.heap.size) hbb) hB (by decide) (.slice ao2 b.ns.length cap2) (.slice ao3 b.es.length cap3))
        have HF3 := Lib.hid (store2 hB (.slice ao2 b.ns.length cap2) (.slice ao3 b.es.length cap3))
        have HSS := Lib.hid ((hq3.2.setCell (p := ⟨w4.heap.size, 0, none⟩) (Nat.le_refl _) (.slice ao2 b.ns.length cap2)).setCell (p := ⟨w4.heap.size, 1, none⟩) (Nat.le_refl _) (.slice ao3 b.es.length cap3))
        clear hc2 hf2 hc3 hf3 ho2 ho3 hb2 hb3 hq2 hq3 hB
        go_wp2_with fail
        go_meet
        exact ⟨_, _, _, _, _, rfl, HSS.out, HF3.out, HF1.out, HF2.out, Nat.le_refl _⟩
    case rest =>
      obtain ⟨bn, a4, k4, a5, k5, rfl, hbel2, hbm2, hma2, hmb2, hbb2⟩ := hcut
      obtain ⟨w5, hw5⟩ : ∃ w5, w5 = wc := ⟨_, rfl⟩
      subst hw5
      have HX5 := Lib.hid (fun W (h : Below w5.heap.size w5 W) => HX4.out W (hbel2.trans (h.mono hbel2.size)))
      have HBM2 := Lib.hid hbm2
      have HMA2 := Lib.hid hma2
      have HMB2 := Lib.hid hmb2
      have HBL2 := Lib.hid hbel2
      have hsz2 := hbel2.size
      have hlt2 := heap_lt hbm2
      clear hbm2 hma2 hmb2 hbel2 HM2 HSd2
      obtain ⟨nn, hnn⟩ : ∃ nn, nn = a.ns ++ b.ns := ⟨_, rfl⟩
      have HNN := Lib.hid hnn
      have HCC := Lib.hid (fun W g c (h : (SB w.heap.size (.slice An a.ns.length cn) (.slice Ae a.es.length ce) (.slice Bn b.ns.length dn) (.slice Be b.es.length de) w5) W) (k0 : W.cell? ⟨g, 0, none⟩ = some (.slice An a.ns.length cn)) (k1 : W.cell? ⟨g, 1, none⟩ = some (.slice Bn b.ns.length dn)) (hg : g < W.heap.size) => concat_any An Bn a.ns.length cn b.ns.length dn c a.ns b.ns rfl rfl (by omega) (by omega) W g w.heap.size (Nat.le_trans (by omega) h.2.size) k0 k1 hg (HTA.out.ns.below (HX5.out W h.2).be) (HTB.out.ns.below (HX5.out W h.2).be))
      rw [← hnn] at HCC
      have HCE := Lib.hid (fun W (h : (SB w.heap.size (.slice An a.ns.length cn) (.slice Ae a.es.length ce) (.slice Bn b.ns.length dn) (.slice Be b.es.length de) w5) W) => cloneE_any a.es Ae w.heap.size ce W (by omega) (HTA.out.es.below (HX5.out W h.2).be))
      have HM3 := Lib.hid (fun W (h : Below w5.heap.size w5 W) => SB.mk (by have := (HX5.out w5 (Below.refl _ _)).lt; omega) (HX5.out w5 (Below.refl _ _)).b0.cells (HX5.out w5 (Below.refl _ _)).b1.cells h)
      have HSd3 := Lib.hid (HM3.out _ (below_d w5))
      have y7 : w.heap.size + 1 < w5.heap.size := by omega
      have y8 : w.heap.size < w5.heap.size := by omega
      obtain ⟨c0, c1⟩ := (HX5.out _ (Below.refl _ _)).b0.cells
      obtain ⟨c2, c3⟩ := (HX5.out _ (Below.refl _ _)).b1.cells
      clear c0 c1 c2 c3 hnn
      go_upto_region 6 with (fail)
      go_cut [11] (fun u wx => ∃ bg a6 k6 a7 k7, u = .pointer (some ⟨bg, 0, none⟩) ∧ Below w5.heap.size w5 wx ∧ BoxIs bg (.slice a6 nn.length k6) (.slice a7 a.es.length k7) 25 wx ∧ OwnI wx w5.heap.size (.slice a6 nn.length k6) nn ∧ OwnEd wx w5.heap.size (.slice a7 a.es.length k7) a.es ∧ w5.heap.size ≤ bg)
      case first =>
        go_wp2_with fail
        go_region_held3 (SB w.heap.size (.slice An a.ns.length cn) (.slice Ae a.es.length ce) (.slice Bn b.ns.length dn) (.slice Be b.es.length de) w5)
          (first | assumption | exact HSd3.out | exact HM3.out _ ((show SB _ _ _ _ _ w5 _ from (by first | assumption | exact HSd3.out)).2.trans ((below_a _ _).mono (show SB _ _ _ _ _ w5 _ from (by first | assumption | exact HSd3.out)).2.size)) | exact HM3.out _ (below_ad _ _) | exact HM3.out _ (((show SB _ _ _ _ _ w5 _ from (by assumption)).2.setCell (by first | exact Nat.le_refl _ | exact hq2.2.size | exact Nat.le_succ _) _).setCell (by first | exact Nat.le_refl _ | exact hq2.2.size | exact Nat.le_succ _) _))
          ((first
            | ((with_reducible refine (HCC.out _ _ _ (by first | assumption | exact HSd3.out) ?_ ?_ ?_).mono ?_); (first | (simp; done) | exact (cell2 (heap_up (below_d _) (heap_alloc_new _ _))).1 | exact (cell2 (heap_up (below_a _ _) (heap_up (below_d _) (heap_alloc_new _ _)))).1 | exact (cell2 (heap_up (below_ad _ _) (heap_alloc_new _ _))).1 | exact (cell2 (heap_up (below_d _) (heap_two' _ _ _))).1 | exact (cell2 (heap_two' _ _ _)).1); (first | (simp; done) | exact (cell2 (heap_up (below_d _) (heap_alloc_new _ _))).2 | exact (cell2 (heap_up (below_a _ _) (heap_up (below_d _) (heap_alloc_new _ _)))).2 | exact (cell2 (heap_up (below_ad _ _) (heap_alloc_new _ _))).2 | exact (cell2 (heap_up (below_d _) (heap_two' _ _ _))).2 | exact (cell2 (heap_two' _ _ _)).2); (first | (simp; done) | (simp; omega) | exact heap_lt (heap_up (below_d _) (heap_two' _ _ _)) | exact heap_lt (heap_up (below_d _) (heap_alloc_new _ _)) | exact heap_lt (heap_up (below_a _ _) (heap_up (below_d _) (heap_alloc_new _ _)))); rintro e w2 ⟨⟨v2, rfl, ho2⟩, hb2⟩; have hq2 := HM3.out w2 ((show SB _ _ _ _ _ w5 _ from (by first | assumption | exact HSd3.out)).2.trans (hb2.mono (show SB _ _ _ _ _ w5 _ from (by first | assumption | exact HSd3.out)).2.size)); obtain ⟨hc2, hf2⟩ := bcell hb2; (try (have hy2 : w5.heap.size + 1 < w2.heap.size := by have := hb2.size; simp at this; omega)); (try (have hy4 : w5.heap.size < w2.heap.size := by have := hb2.size; simp at this; omega)); obtain ⟨ao2, cap2, rfl⟩ := OwnE.slice ho2)
            | ((with_reducible refine (HCE.out _ (by first | assumption | exact HSd3.out)).mono ?_); rintro e w3 ⟨v3, rfl, ho3, hb3⟩; have hq3 := HM3.out w3 ((show SB _ _ _ _ _ w5 _ from (by first | assumption | exact HSd3.out)).2.trans (hb3.mono (show SB _ _ _ _ _ w5 _ from (by first | assumption | exact HSd3.out)).2.size)); obtain ⟨hc3, hf3⟩ := bcell hb3; (try (have hy3 : w2.heap.size < w3.heap.size := by have := hb3.size; simp at this; omega)); obtain ⟨ao3, cap3, rfl⟩ := OwnE.slice ho3)))
        · have hbb := hq3.2.size
          have HF1 := Lib.hid (ho2.mono (base' := w5.heap.size) (by simp))
          have HF2 := Lib.hid (ho3.mono (base' := w5.heap.size) hq2.2.size)
          have HF3 := Lib.hid ((HF1.out.below hb3 (Nat.le_refl _)).alloc (.cells #[.slice ao2 nn.length cap2, .slice ao3 a.es.length cap3] 25 (0, 0)))
          have HSS := Lib.hid (hq3.2.trans ((below_a w3 (.cells #[.slice ao2 nn.length cap2, .slice ao3 a.es.length cap3] 25 (0, 0))).mono hbb))
          clear hc2 hf2 hc3 hf3 ho2 ho3 hb2 hb3 hq2 hq3
          go_wp2_with fail
          go_meet
          exact ⟨_, _, _, _, _, rfl, HSS.out, heap_alloc_new _ _, HF3.out, HF2.out.alloc _, hbb⟩
        · have hbb : w5.heap.size ≤ w2.heap.size := hq2.2.size
          have hB : Blk (w2.heap.size) 25 w3 := Blk.up ⟨_, _, heap_alloc_new _ _⟩ hb3
          have HF1 := Lib.hid (OwnE.store2 ((ho2.mono (base' := w5.heap.size) (by simp)).below ((below_a _ _).trans (hb3.mono (by simp))) (Nat.le_refl _)) hB (by decide) (.slice ao2 nn.length cap2) (.slice ao3 a.es.length cap3))
          have HF2 := Lib.hid (OwnE.store2 (ho3.mono (base' := w5.heap.size) (by have := hq2.2.size; simp; omega)) hB (by decide) (.slice ao2 nn.length cap2) (.slice ao3 a.es.length cap3))
          have HF3 := Lib.hid (store2 hB (.slice ao2 nn.length cap2) (.slice ao3 a.es.length cap3))
          have HSS := Lib.hid ((hq3.2.setCell (p := ⟨w2.heap.size, 0, none⟩) hbb (.slice ao2 nn.length cap2)).setCell (p := ⟨w2.heap.size, 1, none⟩) hbb (.slice ao3 a.es.length cap3))
          clear hc2 hf2 hc3 hf3 ho2 ho3 hb2 hb3 hq2 hq3 hB
          go_wp2_with fail
          go_meet
          exact ⟨_, _, _, _, _, rfl, HSS.out, HF3.out, HF1.out, HF2.out, hbb⟩
        · have hbb : w5.heap.size ≤ w5.heap.size + 1 := Nat.le_succ _
          have hB : Blk (w5.heap.size + 1) 25 w3 := (Blk.up (Blk.up ⟨_, _, heap_two' w5 _ _⟩ (below_d _)) hb2).up hb3
          have HF1 := Lib.hid (OwnE.store2 ((ho2.mono (base' := w5.heap.size) (by simp; omega)).below hb3 (Nat.le_refl _)) hB (by decide) (.slice ao2 nn.length cap2) (.slice ao3 a.es.length cap3))
          have HF2 := Lib.hid (OwnE.store2 (ho3.mono (base' := w5.heap.size) hq2.2.size) hB (by decide) (.slice ao2 nn.length cap2) (.slice ao3 a.es.length cap3))
          have HF3 := Lib.hid (store2 hB (.slice ao2 nn.length cap2) (.slice ao3 a.es.length cap3))
          have HSS := Lib.hid ((hq3.2.setCell (p := ⟨w5.heap.size + 1, 0, none⟩) hbb (.slice ao2 nn.length cap2)).setCell (p := ⟨w5.heap.size + 1, 1, none⟩) hbb (.slice ao3 a.es.length cap3))
          clear hc2 hf2 hc3 hf3 ho2 ho3 hb2 hb3 hq2 hq3 hB
          go_wp2_with fail
          go_meet
          exact ⟨_, _, _, _, _, rfl, HSS.out, HF3.out, HF1.out, HF2.out, hbb⟩
        · have hbb : w5.heap.size ≤ w5.heap.size := Nat.le_refl _
          have hB : Blk (w5.heap.size) 25 w3 := (Blk.up (Blk.up ⟨_, _, heap_two w5 _ _⟩ (below_d _)) hb2).up hb3
          have HF1 := Lib.hid (OwnE.store2 ((ho2.mono (base' := w5.heap.size) (by simp; omega)).below hb3 (Nat.le_refl _)) hB (by decide) (.slice ao2 nn.length cap2) (.slice ao3 a.es.length cap3))
          have HF2 := Lib.hid (OwnE.store2 (ho3.mono (base' := w5.heap.size) hq2.2.size) hB (by decide) (.slice ao2 nn.length cap2) (.slice ao3 a.es.length cap3))
          have HF3 := Lib.hid (store2 hB (.slice ao2 nn.length cap2) (.slice ao3 a.es.length cap3))
          have HSS := Lib.hid ((hq3.2.setCell (p := ⟨w5.heap.size, 0, none⟩) hbb (.slice ao2 nn.length cap2)).setCell (p := ⟨w5.heap.size, 1, none⟩) hbb (.slice ao3 a.es.length cap3))
          clear hc2 hf2 hc3 hf3 ho2 ho3 hb2 hb3 hq2 hq3 hB
          go_wp2_with fail
          go_meet
          exact ⟨_, _, _, _, _, rfl, HSS.out, HF3.out, HF1.out, HF2.out, hbb⟩
      case rest =>
        obtain ⟨bg, a6, k6, a7, k7, rfl, hbel3, hbm3, hma3, hmb3, hbb3⟩ := hcut
        obtain ⟨w6, hw6⟩ : ∃ w6, w6 = wc := ⟨_, rfl⟩
        subst hw6
        have HX6 := Lib.hid (fun W (h : Below w6.heap.size w6 W) => HX5.out W (hbel3.trans (h.mono hbel3.size)))
        have HBM3 := Lib.hid hbm3
        have HMA3 := Lib.hid hma3
        have HMB3 := Lib.hid hmb3
        have HBL3 := Lib.hid hbel3
        have hsz3 := hbel3.size
        have hlt3 := heap_lt hbm3
        clear hbm3 hma3 hmb3 hbel3 HM3 HSd3
        have HWQ := Lib.hid (fun W (h : Below w5.heap.size w5 W) => And.intro (BoxIs.up HBM1.out (HBL2.out.trans (h.mono HBL2.out.size))) (And.intro (BoxIs.up HBM2.out h) (HX5.out W h)))
        have HMV := Lib.hid (fun (k : Nat) (hk : k < b.es.length) W (h : Below w5.heap.size w5 W) => show Calls Try.prog 52 #[edv (b.es.getD k default), .slice a4 b.ns.length k4] W fun e w' => e = .returned (edv (shE a.ns.length (b.es.getD k default))) ∧ Below W.heap.size W w' by
          obtain ⟨A, c, e, hR⟩ := OwnE.reads (OwnE.below HMA2.out h (Nat.le_refl _))
          rw [HLN1.out] at e
          simp only [Value.slice.injEq] at e
          obtain ⟨rfl, _, rfl⟩ := e
          obtain ⟨⟨f1, f2⟩, f3, f4⟩ := valid_at HVB.out hk
          have := moveEnds_any (b.es.getD k default) (numS a.ns.length b.ns.length) a4 k4 W (by rw [HLN1.out]; exact ⟨f1, f2⟩) (by rw [HLN1.out]; exact ⟨f3, f4⟩) hR
          rw [HLN1.out] at this
          have e1 : (numS a.ns.length b.ns.length).getD (b.es.getD k default).fr.toNat 0 = (b.es.getD k default).fr + a.ns.length := by
            unfold numS
            rw [coll_getD _ (by omega)]
            omega
          have e2 : (numS a.ns.length b.ns.length).getD (b.es.getD k default).to.toNat 0 = (b.es.getD k default).to + a.ns.length := by
            unfold numS
            rw [coll_getD _ (by omega)]
            omega
          rw [e1, e2] at this
          exact this)
        obtain ⟨cE, hcE⟩ : ∃ cE : Nat → List Ed, cE = fun k => a.es ++ coll (fun i => [shE a.ns.length (b.es.getD i default)]) k := ⟨_, rfl⟩
        have HC0 : Hid (cE 0 = a.es) := Lib.hid (by rw [hcE]; simp [coll])
        have HCS : Hid (∀ k, cE k ++ [shE a.ns.length (b.es.getD k default)] = cE (k + 1)) := Lib.hid fun k => by rw [hcE]; simp [coll]
        have HCL : Hid (∀ k, (cE k).length ≤ a.es.length + k) := Lib.hid fun k => by rw [hcE]; simp [coll_len]
        have HCF : Hid (cE b.es.length = a.es ++ b.es.map (shE a.ns.length)) := Lib.hid (by rw [hcE]; exact uni_es a b)
        clear hcE
        obtain ⟨c2, c3⟩ := (HX6.out _ (Below.refl _ _)).b1.cells
        have y9 : w.heap.size + 1 < w6.heap.size := by omega
        go_wp2_with fail
        clear c2 c3
        go_loopw [60] (fun vi wr => ∃ (k : Nat) (vE : Value), k ≤ b.es.length ∧ vi = .int .i64 k ∧ BoxIs bg (.slice a6 nn.length k6) vE 25 wr ∧ OwnI wr w5.heap.size (.slice a6 nn.length k6) nn ∧ OwnEd wr w5.heap.size vE (cE k) ∧ Below w5.heap.size w5 wr) (fun vi _ => b.es.length - (intOf vi).toNat)
        case atStart => exact ⟨0, _, Nat.zero_le _, rfl, HBM3.out, HMA3.out, by rw [HC0.out]; exact HMB3.out, HBL3.out⟩
        case round =>
          obtain ⟨k, vE, hk, rfl, hbl, hownN, hown, hbel⟩ := hrel
          have hszr := hbel.size
          have hsz2 := heap_lt hbl
          have HBL := Lib.hid hbl
          have HG := Lib.hid hbel
          obtain ⟨aE, capE, rfl⟩ := OwnE.slice hown
          have HO := Lib.hid hown
          have HON := Lib.hid hownN
          clear hbl hown hbel hownN
          by_cases hlt : k < b.es.length
          · obtain ⟨bb, off, rfl, hb, hc⟩ := Eds.cells (HTB.out.es.below (HX5.out _ HG.out).be) hlt
            have HGX := Lib.hid (HG.out.trans ((below_a wr (.cells #[.int .i64 (b.es.getD k default).ty, .int .i64 (b.es.getD k default).fr, .int .i64 (b.es.getD k default).to] 36 (0, 0))).mono (by omega)))
            have HXB : Hid (EdIs wr.heap.size (b.es.getD k default) (wr.alloc (.cells #[.int .i64 (b.es.getD k default).ty, .int .i64 (b.es.getD k default).fr, .int .i64 (b.es.getD k default).to] 36 (0, 0)))) := Lib.hid (heap_alloc_new _ _)
            have HBX := Lib.hid (BoxIs.up HBL.out (below_a wr (.cells #[.int .i64 (b.es.getD k default).ty, .int .i64 (b.es.getD k default).fr, .int .i64 (b.es.getD k default).to] 36 (0, 0))))
            have HOX := Lib.hid (HO.out.alloc (.cells #[.int .i64 (b.es.getD k default).ty, .int .i64 (b.es.getD k default).fr, .int .i64 (b.es.getD k default).to] 36 (0, 0)))
            have HONX := Lib.hid (HON.out.alloc (.cells #[.int .i64 (b.es.getD k default).ty, .int .i64 (b.es.getD k default).fr, .int .i64 (b.es.getD k default).to] 36 (0, 0)))
            obtain ⟨k0, k1, k2'⟩ := hc k hlt
            have hbb9 : bb < wr.heap.size := by have := hb; omega
            have HMVk := Lib.hid (HMV.out k hlt)
            have hle := HCL.out k
            have HE2 := Lib.hid (HCS.out k)
            have hk0 : (0 : Int) ≤ (k : Int) := by omega
            have hk1 : (k : Int) < (b.es.length : Int) := by omega
            have hk2 : ((k : Int)).toNat = k := by omega
            clear hc
            generalize shE a.ns.length (b.es.getD k default) = y at HMVk HE2
            generalize (b.es.getD k default) = x at *
            go_wp2_with fail
            have hxs : wr.heap.size < (wr.alloc (.cells #[.int .i64 x.ty, .int .i64 x.fr, .int .i64 x.to] 36 (0, 0))).heap.size := by simp
            generalize wr.alloc (.cells #[.int .i64 x.ty, .int .i64 x.fr, .int .i64 x.to] 36 (0, 0)) = wx at *
            generalize wr.heap.size = bx at *
            clear k0 k1 k2'
            have HFX := Lib.hid (fun W (h : Below wx.heap.size wx W) => And.intro (BoxIs.cells (BoxIs.up HBX.out h)) (And.intro (BoxIs.free (BoxIs.up HBX.out h) 1) (And.intro (BoxIs.cells (HWQ.out W (HGX.out.trans (h.mono HGX.out.size))).2.1) (And.intro (cell3 (heap_up h HXB.out)) (show bg < W.heap.size ∧ bn < W.heap.size ∧ bx < W.heap.size by have := h.size; omega)))))
            obtain ⟨⟨b0, b1⟩, bf, ⟨m0, m1⟩, ⟨k0, k1, k2'⟩, s0, s1, s2⟩ := HFX.out _ (Below.refl _ wx)
            have HGXd := Lib.hid (HGX.out.trans ((below_d wx).mono HGX.out.size))
            go_region_law ((first
              | (refine step_append_G (E := EEd) (by rfl) _ _ 23 36 (by rfl) Try.underlying23 infoEd rfl (by decide) (by decide) w5.heap.size (.slice aE (cE k).length capE) (cE k) (by rfl) (HOX.out.below (B := wx.heap.size) (by repeat (first | (with_reducible assumption) | (with_reducible refine Below.drew ?_) | (with_reducible refine below_al ?_ _))) (Nat.le_refl _)) ⟨_, 0, none⟩ 1 y (by rfl) (new_ed (heap_alloc_new _ _)) (by omega) (by simp; omega) ?_; intro v4 w7 ho4 hg4; have ho5 := OwnE.cast HE2.out ho4; obtain ⟨a8, c8, rfl⟩ := OwnE.slice ho5; have hb4 := (BoxIs.up HBX.out (by repeat (first | (with_reducible assumption) | (with_reducible refine Below.drew ?_) | (with_reducible refine below_al ?_ _)))).grow (by decide) hg4; have HB4 := Lib.hid hb4; clear hb4; obtain ⟨t6, t7⟩ := BoxIs.cells HB4.out; have tg := BoxIs.free HB4.out 1)
              | (go_simp; (with_reducible refine (HMVk.out _ (HGXd.out)).mono ?_); rintro e w8 ⟨rfl, hb3⟩; have hb3 : Below wx.heap.size wx w8 := (below_d wx).trans hb3; obtain ⟨⟨t0, t1⟩, tf, _, _, s3, s4, s5⟩ := HFX.out _ hb3)))
            all_goals
              have HG4 := Lib.hid (((HGX.out.trans (hb3.mono HGX.out.size)).trans ((below_a _ _).mono (by omega))).trans hg4.1)
              have HN4 := Lib.hid (OwnE.setBox (x := .slice a8 (cE (k + 1)).length c8) (hg4.row (by decide) ((HONX.out.below hb3 (Nat.le_refl _)).alloc _)) HB4.out (by decide) 1)
              have HE4 := Lib.hid (OwnE.setBox (x := .slice a8 (cE (k + 1)).length c8) ho5 HB4.out (by decide) 1)
              have HB5 := Lib.hid (BoxIs.set1 HB4.out (.slice a8 (cE (k + 1)).length c8))
              clear ho4 ho5 hg4 t0 t1 tf t6 t7 tg b0 b1 bf m0 m1 k0 k1 k2' hb3
              go_wp2_with fail
              go_roundw
              case rel => exact ⟨k + 1, _, by omega, by go_num, HB5.out, HN4.out, HE4.out, HG4.out.setCell (p := ⟨bg, 1, none⟩) hbb3 _⟩
              case measure => simp [intOf]; omega
          · have e : k = b.es.length := by omega
            subst e
            obtain ⟨hm, hn, hux⟩ := HWQ.out _ HG.out
            obtain ⟨m0, m1⟩ := BoxIs.cells hm
            obtain ⟨n0, n1⟩ := BoxIs.cells hn
            obtain ⟨b0, b1⟩ := BoxIs.cells HBL.out
            obtain ⟨⟨p0, p1⟩, f0, f1⟩ := hux.r2.sto
            obtain ⟨⟨p2, p3⟩, f2, f3⟩ := hux.r3.sto
            obtain ⟨⟨p4, p5⟩, f4, f5⟩ := hux.r4.sto
            have HSF := Lib.hid hux
            have hl5 := hux.lt
            have x2 : w.heap.size + 2 < wr.heap.size := by omega
            have x3 : w.heap.size + 3 < wr.heap.size := by omega
            have x4 : w.heap.size + 4 < wr.heap.size := by omega
            have HF1 := Lib.hid (OwnE.below HMA1.out (HBL2.out.trans (HG.out.mono HBL2.out.size)) (Nat.le_refl _))
            have HF2 := Lib.hid (OwnE.below HMB1.out (HBL2.out.trans (HG.out.mono HBL2.out.size)) (Nat.le_refl _))
            have HF3 := Lib.hid (OwnE.below HMA2.out HG.out (Nat.le_refl _))
            have HF4 := Lib.hid (OwnE.below HMB2.out HG.out (Nat.le_refl _))
            clear hm hn hux
            go_wp2_with fail
            go_region
            all_goals
              go_wp2_with fail
              obtain ⟨hbb, ⟨r0, r1⟩, ⟨r2, r3⟩, ⟨r4, r5⟩⟩ := UX.store HSF.out (.slice a6 nn.length k6) (.slice aE (cE b.es.length).length capE) (.slice a2 a.ns.length k2) (.slice a3 a.es.length k3) (.slice a4 b.ns.length k4) (.slice a5 b.es.length k5)
              have hi1 := IsI.up (isI_own (OwnE.set6 HON.out (h := w.heap.size) (by omega) (.slice a6 nn.length k6) (.slice aE (cE b.es.length).length capE) (.slice a2 a.ns.length k2) (.slice a3 a.es.length k3) (.slice a4 b.ns.length k4) (.slice a5 b.es.length k5))) (below_d _)
              have hi2 := IsE.up (isE_own (OwnE.set6 HO.out (h := w.heap.size) (by omega) (.slice a6 nn.length k6) (.slice aE (cE b.es.length).length capE) (.slice a2 a.ns.length k2) (.slice a3 a.es.length k3) (.slice a4 b.ns.length k4) (.slice a5 b.es.length k5))) (below_d _)
              have hi3 := IsI.up (isI_own (OwnE.set6 HF1.out (h := w.heap.size) (by omega) (.slice a6 nn.length k6) (.slice aE (cE b.es.length).length capE) (.slice a2 a.ns.length k2) (.slice a3 a.es.length k3) (.slice a4 b.ns.length k4) (.slice a5 b.es.length k5))) (below_d _)
              have hi4 := IsI.up (isI_own (OwnE.set6 HF2.out (h := w.heap.size) (by omega) (.slice a6 nn.length k6) (.slice aE (cE b.es.length).length capE) (.slice a2 a.ns.length k2) (.slice a3 a.es.length k3) (.slice a4 b.ns.length k4) (.slice a5 b.es.length k5))) (below_d _)
              have hi5 := IsI.up (isI_own (OwnE.set6 HF3.out (h := w.heap.size) (by omega) (.slice a6 nn.length k6) (.slice aE (cE b.es.length).length capE) (.slice a2 a.ns.length k2) (.slice a3 a.es.length k3) (.slice a4 b.ns.length k4) (.slice a5 b.es.length k5))) (below_d _)
              have hi6 := IsI.up (isI_own (OwnE.set6 HF4.out (h := w.heap.size) (by omega) (.slice a6 nn.length k6) (.slice aE (cE b.es.length).length capE) (.slice a2 a.ns.length k2) (.slice a3 a.es.length k3) (.slice a4 b.ns.length k4) (.slice a5 b.es.length k5))) (below_d _)
              refine bodyPost_ret (v := .tuple #[gval a6 nn.length k6 aE (cE b.es.length).length capE, gval a2 a.ns.length k2 a3 a.es.length k3, gval a4 b.ns.length k4 a5 b.es.length k5, .int .i64 0]) (by simp [results, Try.results25, go_sem, r0, r1, r2, r3, r4, r5]) rfl ?_
              exact ⟨⟨_, _, _, rfl, by rw [HG2.out, ← HNN.out, ← HCF.out]; exact isG_of (g := ⟨nn, cE b.es.length⟩) hi1 hi2, by rw [HM2.out]; exact isM_of (g := ⟨numS 0 a.ns.length, numS 0 a.es.length⟩) hi3 hi4, by rw [HN2.out]; exact isM_of (g := ⟨numS a.ns.length b.ns.length, numS a.es.length b.es.length⟩) hi5 hi6⟩, Below.drew hbb⟩

end Go.Proofs.Ytiafmhdicgmfaaa
