/-
  Graphs: AddNode, of the program and the reference.
-/
import Derived.Test.YtiafmhdicgmfaaaGFr
import Derived.Test.YtiafmhdicgmfaaaGChk
import Derived.Test.YtiafmhdicgmfaaaGValR
import Derived.Outline
namespace Go.Proofs.Ytiafmhdicgmfaaa
open Go.RowKit

def AddNC (f : FuncId) : Prop := ∀ (g : Gr) (k : Int) (An : Option Addr) (cn : Nat) (Ae : Option Addr) (ce : Nat) (w : World), GrAt w An cn Ae ce g →
  Calls Try.prog f #[gval An g.ns.length cn Ae g.es.length ce, .int .i64 k] w fun e w' => (∃ v, e = .returned (.tuple #[v, .int .i64 (addNI g k : Nat), .int .i64 (addNE g k : Nat)]) ∧ IsG w' v (addNG g k)) ∧ Below w.heap.size w w'

theorem addN_zero {g : Gr} {k : Int} (h : addNE g k = 0) : validE g = 0 ∧ g.ns.length ≤ 40 ∧ g.es.length ≤ 80 := by
  unfold addNE at h
  split at h
  · omega
  · have := valid_zero (g := g) (by omega)
    exact ⟨by omega, this.1, this.2.1⟩

set_option maxRecDepth 100000 in
set_option maxHeartbeats 4000000 in
theorem addNP : AddNC 12 := by
  intro g k An cn Ae ce w hT
  have hs1 := S1.start w (.slice An g.ns.length cn) (.slice Ae g.es.length ce) (.slice none 0 0) (.slice none 0 0) 25 25
  have HC := Lib.hid (checkNode_any g k An cn Ae ce _ (hT.up hs1.2.2.2.2))
  have HT := Lib.hid hT
  have HU := Lib.hid (fun W W' h hb => S1.up (w := w) (u := .slice An g.ns.length cn) (v := .slice Ae g.es.length ce) (t' := 25) (t := 25) (W := W) (W' := W') h hb)
  have HST := Lib.hid (fun W h a b => S1.store (w := w) (u := .slice An g.ns.length cn) (v := .slice Ae g.es.length ce) (t' := 25) (t := 25) (W := W) h a b)
  have HZ := Lib.hid (fun h => addN_zero (g := g) (k := k) h)
  have HI : Hid (addNI g k = if addNE g k = 0 then g.ns.length else 0) := Lib.hid rfl
  have HG : Hid (addNG g k = if addNE g k = 0 then ⟨g.ns ++ [k], g.es⟩ else noG) := Lib.hid rfl
  have HS1 := Lib.hid hs1
  clear hT hs1
  generalize addNI g k = ri at HI ⊢
  generalize addNG g k = rg at HG ⊢
  generalize addNE g k = R at HC HZ HI HG ⊢
  go_enter Try.func12, Try.ntmps12
  go_wp2_with fail
  refine HC.out.mono ?_
  rintro e w1 ⟨rfl, hb1⟩
  have hq1 := HU.out _ _ HS1.out hb1
  have HQ1 := Lib.hid hq1
  clear hb1 hq1
  obtain ⟨⟨c0, c1⟩, ⟨⟨c2, c3⟩, f2, f3⟩, _⟩ := HQ1.out
  obtain ⟨z0, z1⟩ := S1.lt HQ1.out
  by_cases hR : R = 0
  case neg =>
    have HI2 := Lib.hid (show ri = 0 by rw [HI.out, if_neg hR])
    have HG2 := Lib.hid (show rg = noG by rw [HG.out, if_neg hR])
    have t1 : ((R : Int) != 0) = true := by simp; omega
    clear hR
    go_wp2_with fail
    obtain ⟨r0, r1⟩ := S1.res HQ1.out (.slice none 0 0) (.slice none 0 0)
    refine bodyPost_ret (v := .tuple #[gval none 0 0 none 0 0, .int .i64 0, .int .i64 (R : Nat)]) (by simp [results, Try.results12, go_sem, r0, r1]) rfl ?_
    exact ⟨⟨_, by rw [HI2.out]; rfl, by rw [HG2.out]; exact isG_nil _⟩, (HST.out _ HQ1.out _ _).2.2.2.2⟩
  subst hR
  obtain ⟨_, l1, l2⟩ := HZ.out rfl
  have HI2 := Lib.hid (show ri = g.ns.length by rw [HI.out, if_pos rfl])
  have HG2 := Lib.hid (show rg = ⟨g.ns ++ [k], g.es⟩ by rw [HG.out, if_pos rfl])
  have HN := Lib.hid (fun W (h : Below w.heap.size w W) => Reads.below HT.out.ns h)
  have HE := Lib.hid (fun W (h : Below w.heap.size w W) => Reads.below HT.out.es h)
  have hcn := HT.out.cn.1
  clear HC HZ HI HG HT
  go_wp2_with fail
  refine (clipI_any An g.ns.length cn _ hcn).mono ?_
  rintro e w' ⟨rfl, rfl⟩
  go_wp2_with (at_builtin; refine wpList_append_clip (E := EInt) rfl _ _ 22 3 rfl Try.underlying22 infoInt rfl (by decide) (by decide) An g.ns.length w.heap.size g.ns rfl rfl ?y1 ⟨w1.heap.size, 0, none⟩ 1 k rfl ?y2 ?y3 ?_)
  case y1 => exact HN.out _ ((HU.out _ _ HQ1.out (below_a _ _)).2.2.2.2)
  case y2 => exact new_int (heap_alloc_new _ _)
  case y3 => omega
  intro v2 w2 ho2 hg2
  have hq2 := HU.out _ _ (HU.out _ _ HQ1.out (below_a _ _)) (below_g hg2)
  obtain ⟨ao, cap, rfl⟩ := OwnE.slice ho2
  have HO2 := Lib.hid (ho2.mono (base' := w.heap.size + 2) (by simp; omega))
  have HQ2 := Lib.hid hq2
  have HE2 := Lib.hid (fun W (h : S1 w (.slice An g.ns.length cn) (.slice Ae g.es.length ce) 25 25 W) => cloneE_any g.es Ae w.heap.size ce W (by omega) (HE.out W h.2.2.2.2))
  have HL : Hid ((g.ns ++ [k]).length = g.ns.length + 1) := Lib.hid (by simp)
  clear ho2 hg2 hq2 c0 c1 c2 c3 f2 f3 z0 z1
  go_wp2_with fail
  go_region_held3 (S1 w (.slice An g.ns.length cn) (.slice Ae g.es.length ce) 25 25)
    (first | assumption | exact HQ2.out | exact HU.out _ _ HQ2.out (below_d _) | exact HU.out _ _ (by assumption) (by first | exact below_a _ _ | exact below_ad _ _ | exact below_d _) | exact HST.out _ (by first | assumption | exact HQ2.out) _ _)
    ((with_reducible refine (HE2.out _ (by first | assumption | exact HQ2.out | exact HU.out _ _ HQ2.out (below_d _))).mono ?_; rintro e w3 ⟨v3, rfl, ho3, hb3⟩; have hq3 := HU.out _ _ (by first | assumption | exact HQ2.out | exact HU.out _ _ HQ2.out (below_d _)) hb3; obtain ⟨ao3, cap3, rfl⟩ := OwnE.slice ho3))
  all_goals
    have hz2 := (S1.lt HQ2.out).2
    have ho := (HO2.out.below ((below_d _).trans (hb3.mono (Nat.le_refl _))) (Nat.le_refl _))
    rw [HL.out] at ho
    have HO4 := Lib.hid (isI_res ho (.slice ao (g.ns.length + 1) cap) (.slice ao3 g.es.length cap3))
    have HO5 := Lib.hid (isE_res (ho3.mono (base' := w.heap.size + 2) (by simp; omega)) (.slice ao (g.ns.length + 1) cap) (.slice ao3 g.es.length cap3))
    have HQ3 := Lib.hid hq3
    obtain ⟨r0, r1⟩ := S1.res HQ3.out (.slice ao (g.ns.length + 1) cap) (.slice ao3 g.es.length cap3)
    clear ho ho3 hb3 hq3
    go_wp2_with fail
    refine bodyPost_ret (v := .tuple #[gval ao (g.ns.length + 1) cap ao3 g.es.length cap3, .int .i64 (g.ns.length : Nat), .int .i64 0]) (by simp [results, Try.results12, go_sem, r0, r1]) rfl ?_
    exact ⟨⟨_, by rw [HI2.out]; rfl, by rw [HG2.out]; exact isG_of (g := ⟨g.ns ++ [k], g.es⟩) HO4.out HO5.out⟩, (HST.out _ HQ3.out _ _).2.2.2.2⟩

set_option maxRecDepth 100000 in
set_option maxHeartbeats 4000000 in
theorem addNR : AddNC 14 := by
  intro g k An cn Ae ce w hT
  have hs1 := S1.start w (.slice An g.ns.length cn) (.slice Ae g.es.length ce) (.slice none 0 0) (.slice none 0 0) 25 25
  have HC := Lib.hid (validR_any g An cn Ae ce _ (hT.up hs1.2.2.2.2))
  have HT := Lib.hid hT
  have HU := Lib.hid (fun W W' h hb => S1.up (w := w) (u := .slice An g.ns.length cn) (v := .slice Ae g.es.length ce) (t' := 25) (t := 25) (W := W) (W' := W') h hb)
  have HST := Lib.hid (fun W h a b => S1.store (w := w) (u := .slice An g.ns.length cn) (v := .slice Ae g.es.length ce) (t' := 25) (t := 25) (W := W) h a b)
  have HKI : Hid (∀ u, Calls Try.prog 42 #[.int .i64 k] u fun e w' => e = .returned (.bool (idxB k 100)) ∧ u = w') := Lib.hid fun u => kind_any k u
  have HI : Hid (addNI g k = if addNE g k = 0 then g.ns.length else 0) := Lib.hid rfl
  have HG : Hid (addNG g k = if addNE g k = 0 then ⟨g.ns ++ [k], g.es⟩ else noG) := Lib.hid rfl
  have HX : Hid (addNE g k = if validE g ≠ 0 then validE g else if idxB k 100 = false then 6 else if g.ns.length = 40 then 3 else 0) := Lib.hid rfl
  have HZ := Lib.hid (fun e => valid_zero (g := g) e)
  have HS1 := Lib.hid hs1
  clear hT hs1
  generalize addNI g k = ri at HI ⊢
  generalize addNG g k = rg at HG ⊢
  generalize addNE g k = R at HX HI HG ⊢
  generalize validE g = v at HC HX HZ
  generalize idxB k 100 = z at HKI HX
  go_enter Try.func14, Try.ntmps14
  go_wp2_with fail
  refine HC.out.mono ?_
  rintro e w1 ⟨rfl, hb1⟩
  have hq1 := HU.out _ _ HS1.out hb1
  have HQ1 := Lib.hid hq1
  clear hb1 hq1
  obtain ⟨⟨c0, c1⟩, ⟨⟨c2, c3⟩, f2, f3⟩, _⟩ := HQ1.out
  obtain ⟨z0, z1⟩ := S1.lt HQ1.out
  have HERR : Hid (R ≠ 0 → ri = 0 ∧ rg = noG) := Lib.hid fun h => ⟨by rw [HI.out, if_neg h], by rw [HG.out, if_neg h]⟩
  obtain ⟨r0, r1⟩ := S1.res HQ1.out (.slice none 0 0) (.slice none 0 0)
  have HR01 := Lib.hid (And.intro r0 r1)
  clear r0 r1
  by_cases hv : v = 0
  case neg =>
    obtain ⟨hi, hg⟩ := HERR.out (by rw [HX.out, if_pos hv]; exact hv)
    have HI2 := Lib.hid hi
    have HG2 := Lib.hid hg
    have HR := Lib.hid (show R = v by rw [HX.out, if_pos hv])
    have t1 : ((v : Int) != 0) = true := by simp; omega
    clear hv hi hg
    go_wp2_with fail
    obtain ⟨r0, r1⟩ := HR01.out
    refine bodyPost_ret (v := .tuple #[gval none 0 0 none 0 0, .int .i64 0, .int .i64 (v : Nat)]) (by simp [results, Try.results14, go_sem, r0, r1]) rfl ?_
    exact ⟨⟨_, by rw [HI2.out, HR.out]; rfl, by rw [HG2.out]; exact isG_nil _⟩, (HST.out _ HQ1.out _ _).2.2.2.2⟩
  subst hv
  have HX2 := Lib.hid (show R = if z = false then 6 else if g.ns.length = 40 then 3 else 0 by rw [HX.out, if_neg (fun h => h rfl)])
  obtain ⟨l1, l2, _⟩ := HZ.out rfl
  clear HX HC HZ
  go_wp2_with fail
  refine (HKI.out _).mono ?_
  rintro e w' ⟨rfl, rfl⟩
  cases z
  case false =>
    have h6 := (show R = 6 by rw [HX2.out, if_pos rfl])
    obtain ⟨hi, hg⟩ := HERR.out (by omega)
    have HI2 := Lib.hid hi
    have HG2 := Lib.hid hg
    have HR := Lib.hid h6
    clear h6 hi hg
    go_wp2_with fail
    obtain ⟨r0, r1⟩ := HR01.out
    refine bodyPost_ret (v := .tuple #[gval none 0 0 none 0 0, .int .i64 0, .int .i64 6]) (by simp [results, Try.results14, go_sem, r0, r1]) rfl ?_
    exact ⟨⟨_, by rw [HI2.out, HR.out]; rfl, by rw [HG2.out]; exact isG_nil _⟩, (HST.out _ HQ1.out _ _).2.2.2.2⟩
  by_cases h40 : g.ns.length = 40
  case pos =>
    have h6 := (show R = 3 by rw [HX2.out, if_neg (by simp), if_pos h40])
    obtain ⟨hi, hg⟩ := HERR.out (by omega)
    have HI2 := Lib.hid hi
    have HG2 := Lib.hid hg
    have HR := Lib.hid h6
    have t1 : ((g.ns.length : Int) == 40) = true := by simp; omega
    clear h6 hi hg h40
    go_wp2_with fail
    obtain ⟨r0, r1⟩ := HR01.out
    refine bodyPost_ret (v := .tuple #[gval none 0 0 none 0 0, .int .i64 0, .int .i64 3]) (by simp [results, Try.results14, go_sem, r0, r1]) rfl ?_
    exact ⟨⟨_, by rw [HI2.out, HR.out]; rfl, by rw [HG2.out]; exact isG_nil _⟩, (HST.out _ HQ1.out _ _).2.2.2.2⟩
  have h6 := (show R = 0 by rw [HX2.out, if_neg (by simp), if_neg h40])
  have HR := Lib.hid h6
  have HI2 := Lib.hid (show ri = g.ns.length by rw [HI.out, if_pos h6])
  have HG2 := Lib.hid (show rg = ⟨g.ns ++ [k], g.es⟩ by rw [HG.out, if_pos h6])
  have t1 : ((g.ns.length : Int) == 40) = false := ne_beq (by omega)
  have HCP := Lib.hid (copied_any g An cn Ae ce w1 (by omega) (HT.out.up (HQ1.out.2.2.2.2)))
  clear h6 h40 HI HG HT HKI HX2 HERR HR01
  go_wp2_with fail
  refine HCP.out.mono ?_
  rintro e w2 ⟨⟨v1, u1, rfl, ho1, ho2⟩, hb2⟩
  obtain ⟨a1, c1', rfl⟩ := ho1.slice
  obtain ⟨a2, c2', rfl⟩ := ho2.slice
  have HQ2 := Lib.hid (HU.out _ _ HQ1.out hb2)
  have HO1 := Lib.hid (ho1.mono (base' := w.heap.size + 2) (by omega))
  have HO2 := Lib.hid (ho2.mono (base' := w.heap.size + 2) (by omega))
  clear ho1 ho2 hb2 c0 c1 c2 c3 f2 f3 z0 z1 t1 HCP
  obtain ⟨⟨c0, c1⟩, ⟨⟨c2, c3⟩, f2, f3⟩, _⟩ := HQ2.out
  obtain ⟨z0, z1⟩ := S1.lt HQ2.out
  have HB8 : Hid (BoxIs w2.heap.size (.slice a1 g.ns.length c1') (.slice a2 g.es.length c2') 25 (w2.alloc (.cells #[.slice a1 g.ns.length c1', .slice a2 g.es.length c2'] 25 (0, 0)))) := Lib.hid (heap_alloc_new _ _)
  go_wp2_with (at_builtin; refine wpList_append_Z (E := EInt) rfl _ _ 22 3 rfl Try.underlying22 infoInt rfl (by decide) (by decide) (w.heap.size + 2) (.slice a1 g.ns.length c1') g.ns rfl ?y1 (some ⟨w2.heap.size + 1, 0, none⟩) 1 1 (w2.heap.size + 2) [k] rfl rfl ?y2 ?y3 ?y4 ?y5 ?_)
  case y1 => exact HO1.out.below ((below_a _ _).trans ((below_a _ _).mono (by simp))) (Nat.le_refl _)
  case y2 => exact reads_one (new_int (heap_two' _ _ _)) (by simp)
  case y3 => omega
  case y4 => omega
  case y5 => simp; omega
  intro v3 w3 ho3 hg3
  obtain ⟨a3, c3', rfl⟩ := ho3.slice
  have HL : Hid ((g.ns ++ [k]).length = g.ns.length + 1) := Lib.hid (by simp)
  have hg3' := (Grow.of (t := 3) ((below_a w2 (.cells #[.slice a1 g.ns.length c1', .slice a2 g.es.length c2'] 25 (0, 0))).trans ((below_a _ (.cells #[.int .i64 k] 3 (0, 0))).mono (by simp))) (by omega)).trans hg3
  have HQ3 := Lib.hid (HQ2.out.grow (t0 := 3) (by decide) (by decide) (by omega) hg3')
  have HB3 := Lib.hid ((BoxIs.up HB8.out (below_a _ _)).grow (by decide) hg3)
  have HO3 := Lib.hid ho3
  have HO4 := Lib.hid (hg3'.rowZ (by decide) HO2.out)
  clear hg3 hg3' ho3 c0 c1 c2 c3 f2 f3 z0 z1
  obtain ⟨⟨c0, c1⟩, ⟨⟨c2, c3⟩, f2, f3⟩, _⟩ := HQ3.out
  obtain ⟨z0, z1⟩ := S1.lt HQ3.out
  obtain ⟨b0, b1⟩ := BoxIs.cells HB3.out
  have bf := BoxIs.free HB3.out 0
  rw [HL.out]
  go_wp2_with fail
  have HQ4 := Lib.hid (S1.set HQ3.out (p := ⟨w2.heap.size, 0, none⟩) (by have := (S1.lt HQ2.out).2; show _ ≤ w2.heap.size; omega) (.slice a3 (g.ns.length + 1) c3'))
  have HB4 := Lib.hid (BoxIs.set0 HB3.out (.slice a3 (g.ns.length + 1) c3'))
  have HO5 := Lib.hid (OwnZ.set (x := .slice a3 (g.ns.length + 1) c3') (HL.out ▸ HO3.out) HB3.out (by decide) 0)
  have HO6 := Lib.hid (OwnZ.set (x := .slice a3 (g.ns.length + 1) c3') HO4.out HB3.out (by decide) 0)
  clear c0 c1 c2 c3 f2 f3 z0 z1 b0 b1 bf
  generalize w3.setCell ⟨w2.heap.size, 0, none⟩ (.slice a3 (g.ns.length + 1) c3') = w4 at *
  obtain ⟨⟨c0, c1⟩, ⟨⟨c2, c3⟩, f2, f3⟩, _⟩ := HQ4.out
  obtain ⟨z0, z1⟩ := S1.lt HQ4.out
  obtain ⟨b0, b1⟩ := BoxIs.cells HB4.out
  go_region
  all_goals
    go_wp2_with fail
    obtain ⟨r0, r1⟩ := S1.res HQ4.out (.slice a3 (g.ns.length + 1) c3') (.slice a2 g.es.length c2')
    refine bodyPost_ret (v := .tuple #[gval a3 (g.ns.length + 1) c3' a2 g.es.length c2', .int .i64 (g.ns.length : Nat), .int .i64 0]) (by simp [results, Try.results14, go_sem, r0, r1]) rfl ?_
    have HGG := Lib.hid (isG_of (g := ⟨g.ns ++ [k], g.es⟩) (isI_resZ HO5.out (.slice a3 (g.ns.length + 1) c3') (.slice a2 g.es.length c2')) (isE_resZ HO6.out _ _))
    exact ⟨⟨_, by rw [HI2.out, HR.out]; rfl, by rw [HG2.out]; exact HGG.out.up (below_d _)⟩, Below.drew (HST.out _ HQ4.out _ _).2.2.2.2⟩

end Go.Proofs.Ytiafmhdicgmfaaa
