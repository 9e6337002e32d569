/-
  Graphs, the reference: Remove.
-/
import Derived.Test.YtiafmhdicgmfaaaGRemP
import Derived.Test.YtiafmhdicgmfaaaGValR
import Derived.BigRegion
namespace Go.Proofs.Ytiafmhdicgmfaaa
open Go.RowKit

theorem ascR_be (l : List Int) (n : Nat) (A : Option Addr) (B c : Nat) (w : World) (hl : l.length ≤ maxLen) (hA : Ints w B A l) :
    Calls Try.prog 53 #[.slice A l.length c, .int .i64 (n : Int)] w fun e w' => e = .returned (.int .i64 (ascE l n)) ∧ Below w.heap.size w w' := by
  refine (ascR_any l n A B c w hl hA).mono ?_
  rintro e w' ⟨rfl, q, rfl⟩
  exact ⟨rfl, below_draws (Below.refl _ _) q⟩

set_option maxRecDepth 100000 in
set_option maxHeartbeats 8000000 in
theorem remR : RemC 23 := by
  intro g vs xs An cn Ae ce Av Ax cv cx w lv lx hT hV hX
  have hs1 := S2.start w (.slice An g.ns.length cn) (.slice Ae g.es.length ce) (.slice none 0 0) (.slice none 0 0) (.slice none 0 0) (.slice none 0 0) 25 25 40
  have HC := Lib.hid (validR_any g An cn Ae ce _ (hT.up hs1.be))
  have HU := Lib.hid (fun W W' h hb => S2.up (w := w) (u := .slice An g.ns.length cn) (v := .slice Ae g.es.length ce) (t' := 25) (t := 25) (t2 := 40) (W := W) (W' := W') h hb)
  have HUA := Lib.hid (fun W o h => HU.out W (W.alloc o) h (below_a _ _))
  have HUAD := Lib.hid (fun W o h => HU.out W (W.alloc o).drew h (below_ad _ _))
  have HST := Lib.hid (fun W (h : S2 w (.slice An g.ns.length cn) (.slice Ae g.es.length ce) 25 25 40 W) b (hb : w.heap.size + 3 ≤ b) x y => S2.set (p := ⟨b, 1, none⟩) (S2.set (p := ⟨b, 0, none⟩) h hb x) hb y)
  have HX0 : Hid (remE g vs xs = if validE g ≠ 0 then validE g else if ascE vs g.ns.length ≠ 0 then ascE vs g.ns.length else if ascE xs g.es.length ≠ 0 then ascE xs g.es.length else fstN (dangAt g vs xs) 0 (g.es.length - 0)) := Lib.hid rfl
  have HG : Hid (remG g vs xs = if remE g vs xs = 0 then ⟨remNs g vs g.ns.length, remEs g vs xs g.es.length⟩ else noG) := Lib.hid rfl
  have HM : Hid (remM g vs xs = if remE g vs xs = 0 then ⟨plcs vs g.ns.length, plcs xs g.es.length⟩ else noM) := Lib.hid rfl
  have HA1 := Lib.hid (fun u (hu : Below w.heap.size w u) => ascR_be vs g.ns.length Av w.heap.size cv u (by unfold maxLen; omega) (Reads.below hV hu))
  have HA2 := Lib.hid (fun u (hu : Below w.heap.size w u) => ascR_be xs g.es.length Ax w.heap.size cx u (by unfold maxLen; omega) (Reads.below hX hu))
  have HVZ := Lib.hid (fun h => asc_zero (l := vs) (n := g.ns.length) h)
  have HXZ := Lib.hid (fun h => asc_zero (l := xs) (n := g.es.length) h)
  have HT := Lib.hid hT
  have HV := Lib.hid hV
  have HX := Lib.hid hX
  have HS1 := Lib.hid hs1
  clear hT hs1 hV hX
  have HVE : Hid (∀ v, v = validE g → v = 0 → validE g = 0) := Lib.hid fun v h h2 => by rw [← h]; exact h2
  have HNO : Hid (remE g vs xs ≠ 0 → remG g vs xs = noG ∧ remM g vs xs = noM) := Lib.hid fun h => ⟨by rw [HG.out, if_neg h], by rw [HM.out, if_neg h]⟩
  have HYES : Hid (remE g vs xs = 0 → remG g vs xs = ⟨remNs g vs g.ns.length, remEs g vs xs g.es.length⟩ ∧ remM g vs xs = ⟨plcs vs g.ns.length, plcs xs g.es.length⟩) := Lib.hid fun h => ⟨by rw [HG.out, if_pos h], by rw [HM.out, if_pos h]⟩
  clear HG HM
  generalize remG g vs xs = rg at HNO HYES ⊢
  generalize remM g vs xs = rm at HNO HYES ⊢
  generalize remE g vs xs = R at HX0 HNO HYES ⊢
  obtain ⟨v, hv0⟩ : ∃ v, v = validE g := ⟨_, rfl⟩
  have HVV0 := Lib.hid (HVE.out v hv0)
  rw [← hv0] at HC HX0
  obtain ⟨a1, ha1⟩ : ∃ v, v = ascE vs g.ns.length := ⟨_, rfl⟩
  have HA1' : Hid (∀ u, Below w.heap.size w u → Calls Try.prog 53 #[.slice Av vs.length cv, .int .i64 (g.ns.length : Int)] u fun e w' => e = .returned (.int .i64 (a1 : Nat)) ∧ Below u.heap.size u w') := Lib.hid (by rw [ha1]; exact HA1.out)
  rw [← ha1] at HX0 HVZ
  obtain ⟨a2, ha2⟩ : ∃ v, v = ascE xs g.es.length := ⟨_, rfl⟩
  have HA2' : Hid (∀ u, Below w.heap.size w u → Calls Try.prog 53 #[.slice Ax xs.length cx, .int .i64 (g.es.length : Int)] u fun e w' => e = .returned (.int .i64 (a2 : Nat)) ∧ Below u.heap.size u w') := Lib.hid (by rw [ha2]; exact HA2.out)
  rw [← ha2] at HX0 HXZ
  clear hv0 ha1 ha2 HA1 HA2 HVE
  go_enter Try.func23, Try.ntmps23
  go_wp2_with fail
  refine HC.out.mono ?_
  rintro e w1 ⟨rfl, hb1⟩
  have HQ1 := Lib.hid (HU.out _ _ HS1.out hb1)
  clear hb1 HC
  obtain ⟨⟨c0, c1⟩, ⟨⟨⟨c2, c3⟩, f2, f3⟩, ⟨c4, c5⟩, f4, f5⟩, _⟩ := HQ1.out
  obtain ⟨z0, z1, z2⟩ := S2.lt HQ1.out
  by_cases hv : v = 0
  case neg =>
    have hR := (show R = v by rw [HX0.out, if_pos hv])
    obtain ⟨hg, hm⟩ := HNO.out (by omega)
    have HG2 := Lib.hid hg
    have HM2 := Lib.hid hm
    have HR := Lib.hid hR
    have t1 : ((v : Int) != 0) = true := by simp; omega
    clear hv hR hg hm
    go_wp2_with fail
    obtain ⟨hbb, h1, h2⟩ := S2.store HQ1.out (.slice none 0 0) (.slice none 0 0) (.slice none 0 0) (.slice none 0 0)
    obtain ⟨r0, r1⟩ := cell2 h1
    obtain ⟨r2, r3⟩ := cell2 h2
    refine bodyPost_ret (v := .tuple #[gval none 0 0 none 0 0, gval none 0 0 none 0 0, .int .i64 (v : Nat)]) (by simp [results, Try.results23, go_sem, r0, r1, r2, r3]) rfl ?_
    exact ⟨⟨_, _, by rw [HR.out], by rw [HG2.out]; exact isG_nil _, by rw [HM2.out]; exact isM_nil _⟩, hbb⟩
  have HVA := Lib.hid (HVV0.out hv)
  subst hv
  have HX1 := Lib.hid (show R = if a1 ≠ 0 then a1 else if a2 ≠ 0 then a2 else fstN (dangAt g vs xs) 0 (g.es.length - 0) by rw [HX0.out, if_neg (fun h => h rfl)])
  clear HX0 HVV0
  go_wp2_with fail
  refine (HA1'.out _ HQ1.out.be).mono ?_
  rintro e w2 ⟨rfl, hb2⟩
  have HQ2 := Lib.hid (HU.out _ _ HQ1.out hb2)
  clear hb2 c0 c1 c2 c3 c4 c5 f2 f3 f4 f5 z0 z1 z2
  obtain ⟨⟨c0, c1⟩, ⟨⟨⟨c2, c3⟩, f2, f3⟩, ⟨c4, c5⟩, f4, f5⟩, _⟩ := HQ2.out
  obtain ⟨z0, z1, z2⟩ := S2.lt HQ2.out
  by_cases hv : a1 = 0
  case neg =>
    have hR := (show R = a1 by rw [HX1.out, if_pos hv])
    obtain ⟨hg, hm⟩ := HNO.out (by omega)
    have HG2 := Lib.hid hg
    have HM2 := Lib.hid hm
    have HR := Lib.hid hR
    have t1 : ((a1 : Int) != 0) = true := by simp; omega
    clear hv hR hg hm
    go_wp2_with fail
    obtain ⟨hbb, h1, h2⟩ := S2.store HQ2.out (.slice none 0 0) (.slice none 0 0) (.slice none 0 0) (.slice none 0 0)
    obtain ⟨r0, r1⟩ := cell2 h1
    obtain ⟨r2, r3⟩ := cell2 h2
    refine bodyPost_ret (v := .tuple #[gval none 0 0 none 0 0, gval none 0 0 none 0 0, .int .i64 (a1 : Nat)]) (by simp [results, Try.results23, go_sem, r0, r1, r2, r3]) rfl ?_
    exact ⟨⟨_, _, by rw [HR.out], by rw [HG2.out]; exact isG_nil _, by rw [HM2.out]; exact isM_nil _⟩, hbb⟩
  obtain ⟨v0, va⟩ := HVZ.out hv
  subst hv
  have HX2 := Lib.hid (show R = if a2 ≠ 0 then a2 else fstN (dangAt g vs xs) 0 (g.es.length - 0) by rw [HX1.out, if_neg (fun h => h rfl)])
  have HV0 := Lib.hid v0
  have HVV := Lib.hid va
  clear HX1 HVZ HA1' v0 va
  go_wp2_with fail
  refine (HA2'.out _ HQ2.out.be).mono ?_
  rintro e w3 ⟨rfl, hb3⟩
  have HQ3 := Lib.hid (HU.out _ _ HQ2.out hb3)
  clear hb3 c0 c1 c2 c3 c4 c5 f2 f3 f4 f5 z0 z1 z2
  obtain ⟨⟨c0, c1⟩, ⟨⟨⟨c2, c3⟩, f2, f3⟩, ⟨c4, c5⟩, f4, f5⟩, _⟩ := HQ3.out
  obtain ⟨z0, z1, z2⟩ := S2.lt HQ3.out
  by_cases hv : a2 = 0
  case neg =>
    have hR := (show R = a2 by rw [HX2.out, if_pos hv])
    obtain ⟨hg, hm⟩ := HNO.out (by omega)
    have HG2 := Lib.hid hg
    have HM2 := Lib.hid hm
    have HR := Lib.hid hR
    have t1 : ((a2 : Int) != 0) = true := by simp; omega
    clear hv hR hg hm
    go_wp2_with fail
    obtain ⟨hbb, h1, h2⟩ := S2.store HQ3.out (.slice none 0 0) (.slice none 0 0) (.slice none 0 0) (.slice none 0 0)
    obtain ⟨r0, r1⟩ := cell2 h1
    obtain ⟨r2, r3⟩ := cell2 h2
    refine bodyPost_ret (v := .tuple #[gval none 0 0 none 0 0, gval none 0 0 none 0 0, .int .i64 (a2 : Nat)]) (by simp [results, Try.results23, go_sem, r0, r1, r2, r3]) rfl ?_
    exact ⟨⟨_, _, by rw [HR.out], by rw [HG2.out]; exact isG_nil _, by rw [HM2.out]; exact isM_nil _⟩, hbb⟩
  obtain ⟨x0, xa⟩ := HXZ.out hv
  subst hv
  have HX3 := Lib.hid (show R = fstN (dangAt g vs xs) 0 (g.es.length - 0) by rw [HX2.out, if_neg (fun h => h rfl)])
  have HX0 := Lib.hid x0
  have HXA := Lib.hid xa
  clear HX2 HXZ HA2' x0 xa
  obtain ⟨l1, l2, _⟩ := valid_zero HVA.out
  have HP1 := Lib.hid (fun W (h : S2 w (.slice An g.ns.length cn) (.slice Ae g.es.length ce) 25 25 40 W) => placesR_any vs g.ns.length Av cv W lv (by omega) HVV.out (fun x hx => (HV0.out x hx).1) (Reads.up HV.out h.be))
  have HP2 := Lib.hid (fun W (h : S2 w (.slice An g.ns.length cn) (.slice Ae g.es.length ce) 25 25 40 W) => placesR_any xs g.es.length Ax cx W lx (by omega) HXA.out (fun x hx => (HX0.out x hx).1) (Reads.up HX.out h.be))
  have HLP1 : Hid ((plcs vs g.ns.length).length = g.ns.length) := Lib.hid (coll_len _ _)
  have HLP2 : Hid ((plcs xs g.es.length).length = g.es.length) := Lib.hid (coll_len _ _)
  have HQ3d := Lib.hid (HU.out _ _ HQ3.out (below_d _))
  go_upto_region 10 with (fail)
  go_cut [12] (fun u wx => ∃ bm a2 k2 a3 k3, u = .pointer (some ⟨bm, 0, none⟩) ∧ S2 w (.slice An g.ns.length cn) (.slice Ae g.es.length ce) 25 25 40 wx ∧ BoxIs bm (.slice a2 g.ns.length k2) (.slice a3 g.es.length k3) 40 wx ∧ OwnI wx (w.heap.size + 3) (.slice a2 g.ns.length k2) (plcs vs g.ns.length) ∧ OwnI wx (w.heap.size + 3) (.slice a3 g.es.length k3) (plcs xs g.es.length) ∧ w.heap.size + 3 ≤ bm)
  case first =>
    go_wp2_with fail
    go_region_held3 (S2 w (.slice An g.ns.length cn) (.slice Ae g.es.length ce) 25 25 40)
      (first | assumption | exact HQ3d.out | exact HUA.out _ _ (by first | assumption | exact HQ3d.out) | exact HUAD.out _ _ (by first | assumption | exact HQ3.out) | exact HST.out _ (by assumption) _ (by omega) _ _)
      ((first
        | (with_reducible refine (HP1.out _ (by first | assumption | exact HQ3d.out)).mono ?_; rintro e w4 ⟨v2, rfl, ho2, hb2⟩; have hq2 := HU.out _ _ (by first | assumption | exact HQ3d.out) hb2; obtain ⟨hc2, hf2⟩ := bcell hb2; obtain ⟨_, _, hz2⟩ := S2.lt hq2; (try (have hy2 : w3.heap.size < w4.heap.size := by have := hb2.size; simp at this; omega)); obtain ⟨ao2, cap2, e2⟩ := OwnE.slice ho2; rw [HLP1.out] at e2; subst e2)
        | (with_reducible refine (HP2.out _ (by first | assumption | exact HQ3d.out)).mono ?_; rintro e w5 ⟨v3, rfl, ho3, hb3⟩; have hq3 := HU.out _ _ (by first | assumption | exact HQ3d.out) hb3; obtain ⟨hc3, hf3⟩ := bcell hb3; obtain ⟨_, _, hz3⟩ := S2.lt hq3; obtain ⟨ao3, cap3, e3⟩ := OwnE.slice ho3; rw [HLP2.out] at e3; subst e3)))
    · have hbase2 : w.heap.size + 3 ≤ w5.heap.size := by omega
      have HF1 := Lib.hid (ho2.mono (base' := w.heap.size + 3) (by simp; omega))
      have HF2 := Lib.hid (ho3.mono (base' := w.heap.size + 3) (by omega))
      have HF3 := Lib.hid ((HF1.out.below hb3 (Nat.le_refl _)).alloc (.cells #[.slice ao2 g.ns.length cap2, .slice ao3 g.es.length cap3] 40 (0, 0)))
      have HSS := Lib.hid (HUA.out _ (.cells #[.slice ao2 g.ns.length cap2, .slice ao3 g.es.length cap3] 40 (0, 0)) hq3)
      clear hc2 hf2 hc3 hf3 ho2 ho3 hb2 hb3 hq2 hq3
      go_wp2_with fail
      go_meet
      exact ⟨_, _, _, _, _, rfl, HSS.out, heap_alloc_new _ _, HF3.out, HF2.out.alloc _, hbase2⟩
    · have hbase2 : w.heap.size + 3 ≤ w4.heap.size := by omega
      have hB : Blk w4.heap.size 40 w5 := Blk.up ⟨_, _, heap_alloc_new _ _⟩ hb3
      have HF1 := Lib.hid (OwnE.store2 ((ho2.mono (base' := w.heap.size + 3) (by simp; omega)).below ((below_a _ _).trans (hb3.mono (by simp))) (Nat.le_refl _)) hB (by decide) (.slice ao2 g.ns.length cap2) (.slice ao3 g.es.length cap3))
      have HF2 := Lib.hid (OwnE.store2 (ho3.mono (base' := w.heap.size + 3) (by simp; omega)) hB (by decide) (.slice ao2 g.ns.length cap2) (.slice ao3 g.es.length cap3))
      have HF3 := Lib.hid (store2 hB (.slice ao2 g.ns.length cap2) (.slice ao3 g.es.length cap3))
      have HSS := Lib.hid (HST.out _ hq3 w4.heap.size hbase2 (.slice ao2 g.ns.length cap2) (.slice ao3 g.es.length cap3))
      clear hc2 hf2 hc3 hf3 ho2 ho3 hb2 hb3 hq2 hq3 hB
      go_wp2_with fail
      go_meet
      exact ⟨_, _, _, _, _, rfl, HSS.out, HF3.out, HF1.out, HF2.out, hbase2⟩
    · have hbase2 : w.heap.size + 3 ≤ w3.heap.size := by omega
      have hB : Blk w3.heap.size 40 w5 := (Blk.up (Blk.up ⟨_, _, heap_alloc_new w3 _⟩ (below_d _)) hb2).up hb3
      have HF1 := Lib.hid (OwnE.store2 ((ho2.mono (base' := w.heap.size + 3) (by simp; omega)).below hb3 (Nat.le_refl _)) hB (by decide) (.slice ao2 g.ns.length cap2) (.slice ao3 g.es.length cap3))
      have HF2 := Lib.hid (OwnE.store2 (ho3.mono (base' := w.heap.size + 3) (by omega)) hB (by decide) (.slice ao2 g.ns.length cap2) (.slice ao3 g.es.length cap3))
      have HF3 := Lib.hid (store2 hB (.slice ao2 g.ns.length cap2) (.slice ao3 g.es.length cap3))
      have HSS := Lib.hid (HST.out _ hq3 w3.heap.size hbase2 (.slice ao2 g.ns.length cap2) (.slice ao3 g.es.length cap3))
      clear hc2 hf2 hc3 hf3 ho2 ho3 hb2 hb3 hq2 hq3 hB
      go_wp2_with fail
      go_meet
      exact ⟨_, _, _, _, _, rfl, HSS.out, HF3.out, HF1.out, HF2.out, hbase2⟩
  case rest =>
    clear HQ3d HP1 HP2 HQ3 HQ1 HQ2 c0 c1 c2 c3 c4 c5 f2 f3 f4 f5 z0 z1 z2
    obtain ⟨bm, a2, k2, a3, k3, rfl, hq, hbm, hm1, hm2, hbb⟩ := hcut
    have hzc := (S2.lt hq).2.2
    have hbmlt := heap_lt hbm
    have HWS := Lib.hid (fun W (h : Below wc.heap.size wc W) => HU.out wc W hq h)
    have HWM := Lib.hid (fun W (h : Below wc.heap.size wc W) => BoxIs.up hbm h)
    have HWN := Lib.hid (fun W (h : Below wc.heap.size wc W) => Reads.below HT.out.ns (HU.out wc W hq h).be)
    have HWE := Lib.hid (fun W (h : Below wc.heap.size wc W) => Reads.below HT.out.es (HU.out wc W hq h).be)
    have HW1 := Lib.hid (fun W (h : Below wc.heap.size wc W) => OwnE.below hm1 h (Nat.le_refl _))
    have HW2 := Lib.hid (fun W (h : Below wc.heap.size wc W) => OwnE.below hm2 h (Nat.le_refl _))
    have HQC := Lib.hid hq
    have HR1 : Hid (∀ W, Below wc.heap.size wc W → ∀ k, k < g.ns.length → ∃ b off, a2 = some ⟨b, off, none⟩ ∧ b < W.heap.size ∧ W.cell? ⟨b, off + k, none⟩ = some (.int .i64 (plc vs k))) := Lib.hid fun W h k hk => by
      obtain ⟨A, c, e, hR⟩ := OwnE.reads (HW1.out W h)
      simp only [Value.slice.injEq] at e
      obtain ⟨rfl, _, _⟩ := e
      obtain ⟨b, off, e1, e2, e3⟩ := Ints.cells hR (k := k) (by rw [HLP1.out]; exact hk)
      refine ⟨b, off, e1, e2, ?_⟩
      rw [e3 k (by rw [HLP1.out]; exact hk)]
      unfold plcs
      rw [coll_getD _ hk]
    have HR2 : Hid (∀ W, Below wc.heap.size wc W → ∀ k, k < g.es.length → ∃ b off, a3 = some ⟨b, off, none⟩ ∧ b < W.heap.size ∧ W.cell? ⟨b, off + k, none⟩ = some (.int .i64 (plc xs k))) := Lib.hid fun W h k hk => by
      obtain ⟨A, c, e, hR⟩ := OwnE.reads (HW2.out W h)
      simp only [Value.slice.injEq] at e
      obtain ⟨rfl, _, _⟩ := e
      obtain ⟨b, off, e1, e2, e3⟩ := Ints.cells hR (k := k) (by rw [HLP2.out]; exact hk)
      refine ⟨b, off, e1, e2, ?_⟩
      rw [e3 k (by rw [HLP2.out]; exact hk)]
      unfold plcs
      rw [coll_getD _ hk]
    have HL0 : Hid (BoxIs wc.heap.size (.slice none 0 0) (.slice none 0 0) 25 (wc.alloc (.cells #[.slice none 0 0, .slice none 0 0] 25 (0, 0)))) := Lib.hid (heap_alloc_new _ _)
    have HLB := Lib.hid (below_a wc (.cells #[.slice none 0 0, .slice none 0 0] 25 (0, 0)))
    have HKI := Lib.hid (fun (k : Nat) (h : (k : Int) ∈ vs) => show plc vs k = -1 ∧ remNs g vs (k + 1) = remNs g vs k from ⟨plc_in h, by simp only [remNs, coll]; rw [if_pos h, List.append_nil]⟩)
    have HKO := Lib.hid (fun (k : Nat) (h : ¬ (k : Int) ∈ vs) => show 0 ≤ plc vs k ∧ remNs g vs k ++ [g.ns.getD k 0] = remNs g vs (k + 1) from ⟨(plc_nonneg HVV.out (fun x hx => (HV0.out x hx).1)).2 h, by simp only [remNs, coll]; rw [if_neg h]⟩)
    have HKL : Hid (∀ k, (remNs g vs k).length ≤ k) := Lib.hid (coll_le fun i => by split <;> simp)
    have HK0 : Hid (remNs g vs 0 = []) := Lib.hid rfl
    obtain ⟨⟨c0, c1⟩, _⟩ := HWS.out _ HLB.out
    clear hq hbm hm1 hm2
    go_wp2_with fail
    clear c0 c1
    go_loopw [14] (fun vi wr => ∃ (k : Nat) (vN : Value), k ≤ g.ns.length ∧ vi = .int .i64 k ∧ BoxIs wc.heap.size vN (.slice none 0 0) 25 wr ∧ OwnI wr (wc.heap.size + 1) vN (remNs g vs k) ∧ Below wc.heap.size wc wr) (fun vi _ => g.ns.length - (intOf vi).toNat)
    case atStart => exact ⟨0, _, Nat.zero_le _, rfl, HL0.out, by rw [HK0.out]; exact OwnE.nil _ _ _, HLB.out⟩
    case round =>
      obtain ⟨k, vN, hk, rfl, hbl, hown, hbel⟩ := hrel
      have HBL := Lib.hid hbl
      have HG := Lib.hid hbel
      have hsz := heap_lt hbl
      obtain ⟨ao, cap, rfl⟩ := OwnE.slice hown
      have HO := Lib.hid hown
      clear hbl hown hbel
      obtain ⟨⟨c0, c1⟩, _⟩ := HWS.out _ HG.out
      obtain ⟨m0, m1⟩ := BoxIs.cells (HWM.out _ HG.out)
      obtain ⟨b0, b1⟩ := BoxIs.cells HBL.out
      have bf := BoxIs.free HBL.out 0
      have z0 : w.heap.size < wr.heap.size := by omega
      have z1 : bm < wr.heap.size := by omega
      by_cases hlt : k < g.ns.length
      · obtain ⟨bb, off, rfl, hb, hc⟩ := Ints.cells (HWN.out _ HG.out) hlt
        obtain ⟨b2, off2, rfl, hb2, d0⟩ := HR1.out _ HG.out k hlt
        have k0 := hc k hlt
        have hbb9 : bb < wr.heap.size := by omega
        clear hc
        by_cases hin : (k : Int) ∈ vs
        · obtain ⟨e1, e2⟩ := HKI.out k hin
          have HE2 := Lib.hid e2
          rw [e1] at d0
          clear e1 e2 hin
          go_wp2_with fail
          go_roundw
          case rel => exact ⟨k + 1, _, by omega, by go_num, HBL.out, OwnE.cast HE2.out.symm HO.out, HG.out⟩
          case measure => simp [intOf]; omega
        · obtain ⟨e1, e2⟩ := HKO.out k hin
          have HE2 := Lib.hid e2
          have hle := HKL.out k
          clear e2 hin
          generalize g.ns.getD k 0 = y at k0 HE2
          generalize plc vs k = z at d0 e1
          have i0 : (0 : Int) ≤ (k : Int) := by omega
          have i1 : (k : Int) < (g.ns.length : Int) := by omega
          have i2 : ((k : Int)).toNat = k := by omega
          have HSZ := Lib.hid (show ∀ o : Obj, wc.heap.size + 1 ≤ (wr.alloc o).heap.size from fun o => by simp; omega)
          have HBD := Lib.hid (below_d wr)
          go_wp2_with fail
          go_region_law ((refine step_append_G (E := EInt) (by rfl) _ _ 22 3 (by rfl) Try.underlying22 infoInt rfl (by decide) (by decide) (wc.heap.size + 1) (.slice ao (remNs g vs k).length cap) (remNs g vs k) (by rfl) (OwnE.below HO.out (below_ad _ _) (Nat.le_refl _)) ⟨_, 0, none⟩ 1 y (by rfl) (new_int (heap_alloc_new wr _)) (by omega) (HSZ.out _) ?_; intro v3 w3 ho3 hg3; have ho4 := OwnE.cast HE2.out ho3; obtain ⟨ao3, cap3, rfl⟩ := OwnE.slice ho4; have HB3 := Lib.hid (BoxIs.grow (BoxIs.up HBL.out (below_ad _ _)) (by decide) hg3); have tg := BoxIs.free HB3.out 0; obtain ⟨t0, t1⟩ := BoxIs.cells HB3.out))
          all_goals
            have HG4 := Lib.hid ((HG.out.trans ((below_ad wr (.cells #[.int .i64 y] 3 (0, 0))).mono (by omega))).trans (hg3.1.mono (Nat.le_succ _)))
            have HN4 := Lib.hid (OwnE.setBox (x := .slice ao3 (remNs g vs (k + 1)).length cap3) ho4 HB3.out (by decide) 0)
            have HB5 := Lib.hid (BoxIs.set0 HB3.out (.slice ao3 (remNs g vs (k + 1)).length cap3))
            clear ho3 ho4 hg3 t0 t1 tg b0 b1 bf m0 m1 k0 d0 c0 c1
            go_wp2_with fail
            go_roundw
            case rel => exact ⟨k + 1, _, by omega, by go_num, HB5.out, HN4.out, HG4.out.setCell (p := ⟨wc.heap.size, 0, none⟩) (Nat.le_refl _) _⟩
            case measure => simp [intOf]; omega
      · have e : k = g.ns.length := by omega
        subst e
        obtain ⟨wo, hwo⟩ : ∃ wo, wo = wr := ⟨_, rfl⟩
        subst hwo
        clear HKI HKO HK0 hlt hk
        have HKI := Lib.hid (fun (k : Nat) (h : (k : Int) ∈ xs) => show plc xs k = -1 ∧ remEs g vs xs (k + 1) = remEs g vs xs k ∧ dangAt g vs xs k = 0 from ⟨plc_in h, by simp only [remEs, coll]; rw [if_pos h, List.append_nil], by unfold dangAt dangB; rw [decide_eq_true h]; rfl⟩)
        have HKO := Lib.hid (fun (k : Nat) (h : ¬ (k : Int) ∈ xs) => show 0 ≤ plc xs k ∧ remEs g vs xs k ++ [mvd g vs k] = remEs g vs xs (k + 1) from ⟨(plc_nonneg HXA.out (fun x hx => (HX0.out x hx).1)).2 h, by simp only [remEs, coll]; rw [if_neg h]⟩)
        have HKE : Hid (∀ k, (remEs g vs xs k).length ≤ k) := Lib.hid (coll_le fun i => by split <;> simp)
        have HK0 : Hid (remEs g vs xs 0 = []) := Lib.hid rfl
        have HDG := Lib.hid (fun (k : Nat) (hk : k < g.es.length) (h : ¬ (k : Int) ∈ xs) => show ∃ (ty : Int) (a b : Nat), g.es.getD k default = ⟨ty, a, b⟩ ∧ a < g.ns.length ∧ b < g.ns.length ∧ mvd g vs k = ⟨ty, plc vs a, plc vs b⟩ ∧ (plc vs a < 0 → dangAt g vs xs k = 14) ∧ (plc vs b < 0 → dangAt g vs xs k = 14) ∧ (0 ≤ plc vs a → 0 ≤ plc vs b → dangAt g vs xs k = 0) by
          obtain ⟨⟨f1, f2⟩, f3, f4⟩ := valid_at HVA.out hk
          have hnn := fun i => plc_nonneg HVV.out (fun x hx => (HV0.out x hx).1) (i := i)
          unfold mvd frN toN dangAt dangB
          generalize g.es.getD k default = x at f1 f2 f3 f4 ⊢
          obtain ⟨ty, fr, tt⟩ := x
          dsimp only at f1 f2 f3 f4 ⊢
          obtain ⟨a, rfl⟩ : ∃ a : Nat, fr = a := ⟨fr.toNat, by omega⟩
          obtain ⟨b, rfl⟩ : ∃ b : Nat, tt = b := ⟨tt.toNat, by omega⟩
          refine ⟨ty, a, b, rfl, by omega, by omega, by simp, fun h1 => ?_, fun h1 => ?_, fun h1 h2 => ?_⟩
          · have : (a : Int) ∈ vs := Classical.byContradiction fun hc => by have := (hnn a).2 hc; omega
            rw [decide_eq_false h, decide_eq_true this]; rfl
          · have : (b : Int) ∈ vs := Classical.byContradiction fun hc => by have := (hnn b).2 hc; omega
            rw [decide_eq_false h, decide_eq_true this, Bool.or_true]; rfl
          · rw [decide_eq_false h, decide_eq_false ((hnn a).1 h1), decide_eq_false ((hnn b).1 h2)]; rfl)
        have HHIT := Lib.hid (fun k (h : k < g.es.length) hf => fstN_hit (f := dangAt g vs xs) h hf)
        have HPASS := Lib.hid (fun k (h : k < g.es.length) hf => fstN_pass (f := dangAt g vs xs) h hf)
        have HEND := Lib.hid (fun k (h : g.es.length ≤ k) => fstN_end (f := dangAt g vs xs) h)
        generalize dangAt g vs xs = f at *
        go_wp2_with fail
        clear c0 c1 m0 m1 b0 b1 bf
        go_loopw [15] (fun vi wr => ∃ (k : Nat) (vE : Value), k ≤ g.es.length ∧ vi = .int .i64 k ∧ R = fstN f k (g.es.length - k) ∧ BoxIs wc.heap.size (.slice ao (remNs g vs g.ns.length).length cap) vE 25 wr ∧ OwnI wr (wc.heap.size + 1) (.slice ao (remNs g vs g.ns.length).length cap) (remNs g vs g.ns.length) ∧ OwnEd wr (wc.heap.size + 1) vE (remEs g vs xs k) ∧ Below wc.heap.size wc wr) (fun vi _ => g.es.length - (intOf vi).toNat)
        case atStart => exact ⟨0, _, Nat.zero_le _, rfl, HX3.out, HBL.out, HO.out, by rw [HK0.out]; exact OwnE.nil _ _ _, HG.out⟩
        case round =>
          clear HBL HO HG z0 z1
          obtain ⟨k, vE, hk, rfl, hr, hbl, hownN, hown, hbel⟩ := hrel
          have HR := Lib.hid hr
          have HBL := Lib.hid hbl
          have HG := Lib.hid hbel
          have hsz2 := heap_lt hbl
          obtain ⟨aE, capE, rfl⟩ := OwnE.slice hown
          have HO := Lib.hid hown
          have HON := Lib.hid hownN
          clear hbl hown hbel hownN hr
          obtain ⟨⟨c0, c1⟩, _⟩ := HWS.out _ HG.out
          obtain ⟨m0, m1⟩ := BoxIs.cells (HWM.out _ HG.out)
          obtain ⟨b0, b1⟩ := BoxIs.cells HBL.out
          have bf := BoxIs.free HBL.out 1
          have z0 : w.heap.size < wr.heap.size := by omega
          have z1 : bm < wr.heap.size := by omega
          by_cases hlt : k < g.es.length
          · obtain ⟨bb, off, rfl, hb, hc⟩ := Eds.cells (HWE.out _ HG.out) hlt
            obtain ⟨b2, off2, rfl, hb2, d0⟩ := HR2.out _ HG.out k hlt
            obtain ⟨k0, k1, k2'⟩ := hc k hlt
            have hbb9 : bb < wr.heap.size := by omega
            have hle := HKE.out k
            clear hc
            by_cases hin : (k : Int) ∈ xs
            · obtain ⟨e1, e2, e3⟩ := HKI.out k hin
              have HE2 := Lib.hid e2
              have HN := Lib.hid (show R = fstN f (k + 1) (g.es.length - (k + 1)) by rw [HR.out, HPASS.out k hlt e3])
              rw [e1] at d0
              clear e1 e2 e3 hin
              go_wp2_with fail
              go_roundw
              case rel => exact ⟨k + 1, _, by omega, by go_num, HN.out, HBL.out, HON.out, OwnE.cast HE2.out.symm HO.out, HG.out⟩
              case measure => simp [intOf]; omega
            · obtain ⟨e1, e2⟩ := HKO.out k hin
              obtain ⟨ty, a, b, g1, ha, hbn, g2, g3, g4, g5⟩ := HDG.out k hlt hin
              rw [g1] at k0 k1 k2'
              rw [g2] at e2
              have HE2 := Lib.hid e2
              have H3 := Lib.hid g3
              have H4 := Lib.hid g4
              have H5 := Lib.hid g5
              obtain ⟨b4, off4, rfl, hb4, da⟩ := HR1.out _ HG.out a ha
              obtain ⟨b5, off5, hE5, hb5, db⟩ := HR1.out _ HG.out b hbn
              simp only [Option.some.injEq, Addr.mk.injEq, and_true] at hE5
              obtain ⟨rfl, rfl⟩ := hE5
              clear e2 hin g1 g2 g3 g4 g5
              generalize plc xs k = z at d0 e1
              generalize plc vs a = pa at *
              generalize plc vs b = pb at *
              have i0 : (0 : Int) ≤ (k : Int) := by omega
              have i1 : (k : Int) < (g.es.length : Int) := by omega
              have i2 : ((k : Int)).toNat = k := by omega
              have ja0 : (0 : Int) ≤ (a : Int) := by omega
              have ja1 : (a : Int) < (g.ns.length : Int) := by omega
              have ja2 : ((a : Int)).toNat = a := by omega
              have jb0 : (0 : Int) ≤ (b : Int) := by omega
              have jb1 : (b : Int) < (g.ns.length : Int) := by omega
              have jb2 : ((b : Int)).toNat = b := by omega
              dsimp only at k0 k1 k2'
              have hS : ∀ W, Below wr.heap.size wr W → ((W.cell? ⟨w.heap.size, 1, none⟩ = some (.slice (some ⟨bb, off, none⟩) g.es.length ce) ∧ W.cell? ⟨bm, 0, none⟩ = some (.slice (some ⟨b4, off4, none⟩) g.ns.length k2)) ∧ (W.cell? ⟨bb, off + k * 3, none⟩ = some (.int .i64 ty) ∧ W.cell? ⟨bb, off + k * 3 + 1, none⟩ = some (.int .i64 (a : Int)) ∧ W.cell? ⟨bb, off + k * 3 + 2, none⟩ = some (.int .i64 (b : Int))) ∧ (W.cell? ⟨b4, off4 + a, none⟩ = some (.int .i64 pa) ∧ W.cell? ⟨b4, off4 + b, none⟩ = some (.int .i64 pb)) ∧ Below wr.heap.size wr W) := fun W h =>
                ⟨⟨(h.cell (p := ⟨_, _, none⟩) z0).trans c1, (h.cell (p := ⟨_, _, none⟩) z1).trans m0⟩, ⟨(h.cell (p := ⟨_, _, none⟩) hbb9).trans k0, (h.cell (p := ⟨_, _, none⟩) hbb9).trans k1, (h.cell (p := ⟨_, _, none⟩) hbb9).trans k2'⟩, ⟨(h.cell (p := ⟨_, _, none⟩) hb4).trans da, (h.cell (p := ⟨_, _, none⟩) hb4).trans db⟩, h⟩
              have HS := Lib.hid hS
              have HSD := Lib.hid (hS _ (below_d _))
              have HSA : Hid (∀ W o, Below wr.heap.size wr W → Below wr.heap.size wr (W.alloc o)) := Lib.hid fun W o h => below_al h o
              clear hS
              go_wp2_with fail
              clear c0 c1 m0 m1 b0 b1 bf d0 k0 k1 k2' da db
              go_region_held3 (fun W => (W.cell? ⟨w.heap.size, 1, none⟩ = some (.slice (some ⟨bb, off, none⟩) g.es.length ce) ∧ W.cell? ⟨bm, 0, none⟩ = some (.slice (some ⟨b4, off4, none⟩) g.ns.length k2)) ∧ (W.cell? ⟨bb, off + k * 3, none⟩ = some (.int .i64 ty) ∧ W.cell? ⟨bb, off + k * 3 + 1, none⟩ = some (.int .i64 (a : Int)) ∧ W.cell? ⟨bb, off + k * 3 + 2, none⟩ = some (.int .i64 (b : Int))) ∧ (W.cell? ⟨b4, off4 + a, none⟩ = some (.int .i64 pa) ∧ W.cell? ⟨b4, off4 + b, none⟩ = some (.int .i64 pb)) ∧ Below wr.heap.size wr W)
                (first | assumption | exact HSD.out | exact HS.out _ (below_al (below_d _) _) | exact HS.out _ (below_ad _ _) | exact HS.out _ (below_a _ _))
                (fail)
              all_goals
                have HG5 := Lib.hid (HG.out.trans ((below_ad wr (.cells #[.int .i64 ty, .int .i64 pa, .int .i64 pb] 36 (0, 0))).mono (by omega)))
                have HB5 := Lib.hid (BoxIs.up HBL.out (below_ad wr (.cells #[.int .i64 ty, .int .i64 pa, .int .i64 pb] 36 (0, 0))))
                have HO5 := Lib.hid (OwnE.below HO.out (below_ad wr (.cells #[.int .i64 ty, .int .i64 pa, .int .i64 pb] 36 (0, 0))) (Nat.le_refl _))
                have HN5 := Lib.hid (OwnE.below HON.out (below_ad wr (.cells #[.int .i64 ty, .int .i64 pa, .int .i64 pb] 36 (0, 0))) (Nat.le_refl _))
                have HE5 : Hid (EdIs wr.heap.size ⟨ty, pa, pb⟩ (wr.alloc (.cells #[.int .i64 ty, .int .i64 pa, .int .i64 pb] 36 (0, 0))).drew) := Lib.hid (heap_alloc_new wr _)
                have hxs : wr.heap.size < (wr.alloc (.cells #[.int .i64 ty, .int .i64 pa, .int .i64 pb] 36 (0, 0))).drew.heap.size := by simp
                generalize hwx : (wr.alloc (.cells #[.int .i64 ty, .int .i64 pa, .int .i64 pb] 36 (0, 0))).drew = wx at *
                clear hwx HS HSD HSA
                obtain ⟨x0, x1, x2⟩ := cell3 HE5.out
                obtain ⟨b0, b1⟩ := BoxIs.cells HB5.out
                have bf := BoxIs.free HB5.out 1
                have z6 : wc.heap.size < wx.heap.size := by omega
                generalize wr.heap.size = bx at *
                by_cases hpa : pa < 0
                · have hf := H3.out hpa
                  have hR := (show R = 14 by rw [HR.out, HHIT.out k hlt (by omega), hf])
                  obtain ⟨hg, hm⟩ := HNO.out (by omega)
                  have HG2 := Lib.hid hg
                  have HM2 := Lib.hid hm
                  have HRR := Lib.hid hR
                  have HSF := Lib.hid (HWS.out _ HG5.out)
                  obtain ⟨_, ⟨⟨⟨q2, q3⟩, p2, p3⟩, ⟨q4, q5⟩, p4, p5⟩, _⟩ := HSF.out
                  obtain ⟨y0, y1, y2⟩ := S2.lt HSF.out
                  clear hf hR hg hm
                  go_wp2_with fail
                  obtain ⟨hbb, h1, h2⟩ := S2.store HSF.out (.slice none 0 0) (.slice none 0 0) (.slice none 0 0) (.slice none 0 0)
                  obtain ⟨r0, r1⟩ := cell2 h1
                  obtain ⟨r2, r3⟩ := cell2 h2
                  refine bodyPost_ret (v := .tuple #[gval none 0 0 none 0 0, gval none 0 0 none 0 0, .int .i64 14]) (by simp [results, Try.results23, go_sem, r0, r1, r2, r3]) rfl ?_
                  exact ⟨⟨_, _, by rw [HRR.out]; rfl, by rw [HG2.out]; exact isG_nil _, by rw [HM2.out]; exact isM_nil _⟩, hbb⟩
                by_cases hpb : pb < 0
                · have hf := H4.out hpb
                  have hR := (show R = 14 by rw [HR.out, HHIT.out k hlt (by omega), hf])
                  obtain ⟨hg, hm⟩ := HNO.out (by omega)
                  have HG2 := Lib.hid hg
                  have HM2 := Lib.hid hm
                  have HRR := Lib.hid hR
                  have HSF := Lib.hid (HWS.out _ HG5.out)
                  obtain ⟨_, ⟨⟨⟨q2, q3⟩, p2, p3⟩, ⟨q4, q5⟩, p4, p5⟩, _⟩ := HSF.out
                  obtain ⟨y0, y1, y2⟩ := S2.lt HSF.out
                  clear hf hR hg hm
                  go_wp2_with fail
                  obtain ⟨hbb, h1, h2⟩ := S2.store HSF.out (.slice none 0 0) (.slice none 0 0) (.slice none 0 0) (.slice none 0 0)
                  obtain ⟨r0, r1⟩ := cell2 h1
                  obtain ⟨r2, r3⟩ := cell2 h2
                  refine bodyPost_ret (v := .tuple #[gval none 0 0 none 0 0, gval none 0 0 none 0 0, .int .i64 14]) (by simp [results, Try.results23, go_sem, r0, r1, r2, r3]) rfl ?_
                  exact ⟨⟨_, _, by rw [HRR.out]; rfl, by rw [HG2.out]; exact isG_nil _, by rw [HM2.out]; exact isM_nil _⟩, hbb⟩
                have hf := H5.out (by omega) (by omega)
                have HN := Lib.hid (show R = fstN f (k + 1) (g.es.length - (k + 1)) by rw [HR.out, HPASS.out k hlt hf])
                clear hf
                go_wp2_with (at_builtin; refine wpList_append_E (E := EEd) (w := wx.alloc _) rfl _ _ 23 36 rfl Try.underlying23 infoEd rfl (by decide) (by decide) (wc.heap.size + 1) _ (remEs g vs xs k) rfl ?y1 ⟨wx.heap.size, 0, none⟩ 1 ⟨ty, pa, pb⟩ rfl ?y2 ?y3 ?y4 ?_)
                case y1 => exact HO5.out.alloc _
                case y2 => first | exact fun j u h => h | exact new_ed (heap_alloc_new _ _)
                case y3 => omega
                case y4 => first | omega | (simp; omega)
                intro v3 w3 ho3 hg3 hb3
                have hgr := Grow.own (HO5.out.alloc _) hg3 hb3
                have HB6 := Lib.hid ((BoxIs.up HB5.out (below_a _ _)).grow (by decide) hgr)
                have HG6 := Lib.hid ((HG5.out.trans ((below_a _ _).mono (by omega))).trans (hb3.mono (Nat.le_succ _)))
                have HN6 := Lib.hid (hgr.row (by decide) (HN5.out.alloc _))
                have ho4 := OwnE.cast HE2.out ho3
                obtain ⟨a6, c6, rfl⟩ := OwnE.slice ho4
                have HO6 := Lib.hid ho4
                clear ho3 ho4 hg3 hb3 hgr b0 b1 bf x0 x1 x2
                obtain ⟨b0, b1⟩ := BoxIs.cells HB6.out
                have bf := BoxIs.free HB6.out 1
                go_wp2_with fail
                go_roundw
                case rel => exact ⟨k + 1, _, by omega, by go_num, HN.out, BoxIs.set1 HB6.out _, OwnE.setBox HN6.out HB6.out (by decide) 1, OwnE.setBox HO6.out HB6.out (by decide) 1, HG6.out.setCell (p := ⟨wc.heap.size, 1, none⟩) (Nat.le_refl _) _⟩
                case measure => simp [intOf]; omega
          · have e : k = g.es.length := by omega
            subst e
            have hR0 := (show R = 0 by rw [HR.out, HEND.out _ (Nat.le_refl _)])
            obtain ⟨hg, hm⟩ := HYES.out hR0
            have HR0 := Lib.hid hR0
            have HG2 := Lib.hid hg
            have HM2 := Lib.hid hm
            clear hg hm hR0
            have HSF := Lib.hid (HWS.out _ HG.out)
            have HMF := Lib.hid (HWM.out _ HG.out)
            obtain ⟨_, ⟨⟨⟨q2, q3⟩, p2, p3⟩, ⟨q4, q5⟩, p4, p5⟩, _⟩ := HSF.out
            obtain ⟨y0, y1, y2⟩ := S2.lt HSF.out
            have HF1 := Lib.hid (HW1.out _ HG.out)
            have HF2 := Lib.hid (HW2.out _ HG.out)
            go_wp2_with fail
            go_region
            all_goals
              go_wp2_with fail
              first
                | (obtain ⟨hbb, h1, h2⟩ := S2.store HSF.out (.slice ao (remNs g vs g.ns.length).length cap) (.slice aE (remEs g vs xs g.es.length).length capE) (.slice a2 g.ns.length k2) (.slice a3 g.es.length k3)
                   obtain ⟨r0, r1⟩ := cell2 h1
                   obtain ⟨r2, r3⟩ := cell2 h2
                   have hi1 := IsI.up (isI_own (OwnE.set4 HON.out (g := w.heap.size + 1) (h := w.heap.size + 2) (by omega) (by omega) (.slice ao (remNs g vs g.ns.length).length cap) (.slice aE (remEs g vs xs g.es.length).length capE) (.slice a2 g.ns.length k2) (.slice a3 g.es.length k3))) (below_d _)
                   have hi2 := IsE.up (isE_own (OwnE.set4 HO.out (g := w.heap.size + 1) (h := w.heap.size + 2) (by omega) (by omega) (.slice ao (remNs g vs g.ns.length).length cap) (.slice aE (remEs g vs xs g.es.length).length capE) (.slice a2 g.ns.length k2) (.slice a3 g.es.length k3))) (below_d _)
                   have hi3 := IsI.up (isI_own (OwnE.set4 HF1.out (g := w.heap.size + 1) (h := w.heap.size + 2) (by omega) (by omega) (.slice ao (remNs g vs g.ns.length).length cap) (.slice aE (remEs g vs xs g.es.length).length capE) (.slice a2 g.ns.length k2) (.slice a3 g.es.length k3))) (below_d _)
                   have hi4 := IsI.up (isI_own (OwnE.set4 HF2.out (g := w.heap.size + 1) (h := w.heap.size + 2) (by omega) (by omega) (.slice ao (remNs g vs g.ns.length).length cap) (.slice aE (remEs g vs xs g.es.length).length capE) (.slice a2 g.ns.length k2) (.slice a3 g.es.length k3))) (below_d _)
                   refine bodyPost_ret (v := .tuple #[gval ao (remNs g vs g.ns.length).length cap aE (remEs g vs xs g.es.length).length capE, gval a2 g.ns.length k2 a3 g.es.length k3, .int .i64 0]) (by simp [results, Try.results23, go_sem, r0, r1, r2, r3]) rfl ?_
                   exact ⟨⟨_, _, by rw [HR0.out]; rfl, by rw [HG2.out]; exact isG_of (g := ⟨remNs g vs g.ns.length, remEs g vs xs g.es.length⟩) hi1 hi2, by rw [HM2.out]; exact isM_of (g := ⟨plcs vs g.ns.length, plcs xs g.es.length⟩) hi3 hi4⟩, Below.drew hbb⟩)

end Go.Proofs.Ytiafmhdicgmfaaa
