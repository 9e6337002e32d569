/-
  Graphs, the program: Remove.
-/
import Derived.Test.YtiafmhdicgmfaaaGFr2
import Derived.Test.YtiafmhdicgmfaaaGChkR
import Derived.Deep.RegionLaw
import Derived.Deep.DeepCutAuto
import Derived.Deep.CutBlock
import Derived.Deep.RegionWith
namespace Go.Proofs.Ytiafmhdicgmfaaa
open Go.RowKit

def RemC (f : FuncId) : Prop := ∀ (g : Gr) (vs xs : List Int) (An : Option Addr) (cn : Nat) (Ae : Option Addr) (ce : Nat) (Av Ax : Option Addr) (cv cx : Nat) (w : World), vs.length ≤ 1000 → xs.length ≤ 1000 → GrAt w An cn Ae ce g → Ints w w.heap.size Av vs → Ints w w.heap.size Ax xs →
  Calls Try.prog f #[gval An g.ns.length cn Ae g.es.length ce, .slice Av vs.length cv, .slice Ax xs.length cx] w fun e w' => (∃ v u, e = .returned (.tuple #[v, u, .int .i64 (remE g vs xs : Nat)]) ∧ IsG w' v (remG g vs xs) ∧ IsM w' u (remM g vs xs)) ∧ Below w.heap.size w w'

set_option maxRecDepth 100000 in
set_option maxHeartbeats 8000000 in
theorem remP : RemC 21 := by
  intro g vs xs An cn Ae ce Av Ax cv cx w lv lx hT hV hX
  have hs1 := S2.start w (.slice An g.ns.length cn) (.slice Ae g.es.length ce) (.slice none 0 0) (.slice none 0 0) (.slice none 0 0) (.slice none 0 0) 25 25 40
  have HC := Lib.hid (checkRemove_any g vs xs An cn Ae ce Av Ax cv cx _ (hT.up hs1.be) lv lx (Reads.up hV hs1.be) (Reads.up hX hs1.be))
  have HU := Lib.hid (fun W W' h hb => S2.up (w := w) (u := .slice An g.ns.length cn) (v := .slice Ae g.es.length ce) (t' := 25) (t := 25) (t2 := 40) (W := W) (W' := W') h hb)
  have HUA := Lib.hid (fun W o h => HU.out W (W.alloc o) h (below_a _ _))
  have HUAD := Lib.hid (fun W o h => HU.out W (W.alloc o).drew h (below_ad _ _))
  have HST := Lib.hid (fun W (h : S2 w (.slice An g.ns.length cn) (.slice Ae g.es.length ce) 25 25 40 W) b (hb : w.heap.size + 3 ≤ b) x y => S2.set (p := ⟨b, 1, none⟩) (S2.set (p := ⟨b, 0, none⟩) h hb x) hb y)
  have HZ := Lib.hid (fun h => rem_zero (g := g) (vs := vs) (xs := xs) h)
  have HG : Hid (remG g vs xs = if remE g vs xs = 0 then ⟨remNs g vs g.ns.length, remEs g vs xs g.es.length⟩ else noG) := Lib.hid rfl
  have HM : Hid (remM g vs xs = if remE g vs xs = 0 then ⟨plcs vs g.ns.length, plcs xs g.es.length⟩ else noM) := Lib.hid rfl
  have HT := Lib.hid hT
  have HV := Lib.hid hV
  have HX := Lib.hid hX
  have HS1 := Lib.hid hs1
  clear hT hs1 hV hX
  generalize remG g vs xs = rg at HG ⊢
  generalize remM g vs xs = rm at HM ⊢
  generalize remE g vs xs = R at HC HZ HG HM ⊢
  go_enter Try.func21, Try.ntmps21
  go_wp2_with fail
  refine HC.out.mono ?_
  rintro e w1 ⟨rfl, hb1⟩
  have HQ1 := Lib.hid (HU.out _ _ HS1.out hb1)
  clear hb1
  obtain ⟨⟨c0, c1⟩, ⟨⟨⟨c2, c3⟩, f2, f3⟩, ⟨c4, c5⟩, f4, f5⟩, _⟩ := HQ1.out
  obtain ⟨z0, z1, z2⟩ := S2.lt HQ1.out
  by_cases hR : R = 0
  case neg =>
    have HG2 := Lib.hid (show rg = noG by rw [HG.out, if_neg hR])
    have HM2 := Lib.hid (show rm = noM by rw [HM.out, if_neg hR])
    have t1 : ((R : Int) != 0) = true := by simp; omega
    clear hR
    go_wp2_with fail
    obtain ⟨hbb, h1, h2⟩ := S2.store HQ1.out (.slice none 0 0) (.slice none 0 0) (.slice none 0 0) (.slice none 0 0)
    obtain ⟨r0, r1⟩ := cell2 h1
    obtain ⟨r2, r3⟩ := cell2 h2
    refine bodyPost_ret (v := .tuple #[gval none 0 0 none 0 0, gval none 0 0 none 0 0, .int .i64 (R : Nat)]) (by simp [results, Try.results21, go_sem, r0, r1, r2, r3]) rfl ?_
    exact ⟨⟨_, _, rfl, by rw [HG2.out]; exact isG_nil _, by rw [HM2.out]; exact isM_nil _⟩, hbb⟩
  subst hR
  obtain ⟨hz1, hz2, hz3, _⟩ := HZ.out rfl
  obtain ⟨l1, l2, _⟩ := valid_zero hz1
  obtain ⟨v0, va⟩ := asc_zero hz2
  obtain ⟨x0, xa⟩ := asc_zero hz3
  have HG2 := Lib.hid (show rg = ⟨remNs g vs g.ns.length, remEs g vs xs g.es.length⟩ by rw [HG.out, if_pos rfl])
  have HM2 := Lib.hid (show rm = ⟨plcs vs g.ns.length, plcs xs g.es.length⟩ by rw [HM.out, if_pos rfl])
  have HP1 := Lib.hid (fun W (h : S2 w (.slice An g.ns.length cn) (.slice Ae g.es.length ce) 25 25 40 W) => placesP_any vs g.ns.length Av cv W lv (by omega) va (fun x hx => (v0 x hx).1) (Reads.up HV.out h.be))
  have HP2 := Lib.hid (fun W (h : S2 w (.slice An g.ns.length cn) (.slice Ae g.es.length ce) 25 25 40 W) => placesP_any xs g.es.length Ax cx W lx (by omega) xa (fun x hx => (x0 x hx).1) (Reads.up HX.out h.be))
  have HVA := Lib.hid hz1
  have HV0 := Lib.hid v0
  have HX0 := Lib.hid x0
  have HVV := Lib.hid va
  have HXA := Lib.hid xa
  have HLP1 : Hid ((plcs vs g.ns.length).length = g.ns.length) := Lib.hid (coll_len _ _)
  have HLP2 : Hid ((plcs xs g.es.length).length = g.es.length) := Lib.hid (coll_len _ _)
  have HQ1d := Lib.hid (HU.out _ _ HQ1.out (below_d _))
  clear HC HG HM hz1 hz2 hz3 v0 va x0 xa
  go_upto_region 4 with (fail)
  go_cut [10] (fun u wx => ∃ bm a2 k2 a3 k3, u = .pointer (some ⟨bm, 0, none⟩) ∧ S2 w (.slice An g.ns.length cn) (.slice Ae g.es.length ce) 25 25 40 wx ∧ BoxIs bm (.slice a2 g.ns.length k2) (.slice a3 g.es.length k3) 40 wx ∧ OwnI wx (w.heap.size + 3) (.slice a2 g.ns.length k2) (plcs vs g.ns.length) ∧ OwnI wx (w.heap.size + 3) (.slice a3 g.es.length k3) (plcs xs g.es.length) ∧ w.heap.size + 3 ≤ bm)
  case first =>
    go_wp2_with fail
    go_region_held3 (S2 w (.slice An g.ns.length cn) (.slice Ae g.es.length ce) 25 25 40)
      (first | assumption | exact HQ1d.out | exact HUA.out _ _ (by first | assumption | exact HQ1d.out) | exact HUAD.out _ _ (by first | assumption | exact HQ1.out) | exact HST.out _ (by assumption) _ (by omega) _ _)
      ((first
        | (with_reducible refine (HP1.out _ (by first | assumption | exact HQ1d.out)).mono ?_; rintro e w2 ⟨v2, rfl, ho2, hb2⟩; have hq2 := HU.out _ _ (by first | assumption | exact HQ1d.out) hb2; obtain ⟨hc2, hf2⟩ := bcell hb2; obtain ⟨_, _, hz2⟩ := S2.lt hq2; (try (have hy2 : w1.heap.size < w2.heap.size := by have := hb2.size; simp at this; omega)); obtain ⟨ao2, cap2, e2⟩ := OwnE.slice ho2; rw [HLP1.out] at e2; subst e2)
        | (with_reducible refine (HP2.out _ (by first | assumption | exact HQ1d.out)).mono ?_; rintro e w3 ⟨v3, rfl, ho3, hb3⟩; have hq3 := HU.out _ _ (by first | assumption | exact HQ1d.out) hb3; obtain ⟨hc3, hf3⟩ := bcell hb3; obtain ⟨_, _, hz3⟩ := S2.lt hq3; obtain ⟨ao3, cap3, e3⟩ := OwnE.slice ho3; rw [HLP2.out] at e3; subst e3)))
    · have hbase2 : w.heap.size + 3 ≤ w3.heap.size := by omega
      have HF1 := Lib.hid (ho2.mono (base' := w.heap.size + 3) (by simp; omega))
      have HF2 := Lib.hid (ho3.mono (base' := w.heap.size + 3) (by omega))
      have HF3 := Lib.hid ((HF1.out.below hb3 (Nat.le_refl _)).alloc (.cells #[.slice ao2 g.ns.length cap2, .slice ao3 g.es.length cap3] 40 (0, 0)))
      have HSS := Lib.hid (HUA.out _ (.cells #[.slice ao2 g.ns.length cap2, .slice ao3 g.es.length cap3] 40 (0, 0)) hq3)
      clear hc2 hf2 hc3 hf3 ho2 ho3 hb2 hb3 hq2 hq3
      go_wp2_with fail
      go_meet
      exact ⟨_, _, _, _, _, rfl, HSS.out, heap_alloc_new _ _, HF3.out, HF2.out.alloc _, hbase2⟩
    · have hbase2 : w.heap.size + 3 ≤ w2.heap.size := by omega
      have hB : Blk w2.heap.size 40 w3 := Blk.up ⟨_, _, heap_alloc_new _ _⟩ hb3
      have HF1 := Lib.hid (OwnE.store2 ((ho2.mono (base' := w.heap.size + 3) (by simp; omega)).below ((below_a _ _).trans (hb3.mono (by simp))) (Nat.le_refl _)) hB (by decide) (.slice ao2 g.ns.length cap2) (.slice ao3 g.es.length cap3))
      have HF2 := Lib.hid (OwnE.store2 (ho3.mono (base' := w.heap.size + 3) (by simp; omega)) hB (by decide) (.slice ao2 g.ns.length cap2) (.slice ao3 g.es.length cap3))
      have HF3 := Lib.hid (store2 hB (.slice ao2 g.ns.length cap2) (.slice ao3 g.es.length cap3))
      have HSS := Lib.hid (HST.out _ hq3 w2.heap.size hbase2 (.slice ao2 g.ns.length cap2) (.slice ao3 g.es.length cap3))
      clear hc2 hf2 hc3 hf3 ho2 ho3 hb2 hb3 hq2 hq3 hB
      go_wp2_with fail
      go_meet
      exact ⟨_, _, _, _, _, rfl, HSS.out, HF3.out, HF1.out, HF2.out, hbase2⟩
    · have hbase2 : w.heap.size + 3 ≤ w1.heap.size := by omega
      have hB : Blk w1.heap.size 40 w3 := (Blk.up (Blk.up ⟨_, _, heap_alloc_new w1 _⟩ (below_d _)) hb2).up hb3
      have HF1 := Lib.hid (OwnE.store2 ((ho2.mono (base' := w.heap.size + 3) (by simp; omega)).below hb3 (Nat.le_refl _)) hB (by decide) (.slice ao2 g.ns.length cap2) (.slice ao3 g.es.length cap3))
      have HF2 := Lib.hid (OwnE.store2 (ho3.mono (base' := w.heap.size + 3) (by omega)) hB (by decide) (.slice ao2 g.ns.length cap2) (.slice ao3 g.es.length cap3))
      have HF3 := Lib.hid (store2 hB (.slice ao2 g.ns.length cap2) (.slice ao3 g.es.length cap3))
      have HSS := Lib.hid (HST.out _ hq3 w1.heap.size hbase2 (.slice ao2 g.ns.length cap2) (.slice ao3 g.es.length cap3))
      clear hc2 hf2 hc3 hf3 ho2 ho3 hb2 hb3 hq2 hq3 hB
      go_wp2_with fail
      go_meet
      exact ⟨_, _, _, _, _, rfl, HSS.out, HF3.out, HF1.out, HF2.out, hbase2⟩
  case rest =>
    clear HQ1d HP1 HP2 HQ1 c0 c1 c2 c3 c4 c5 f2 f3 f4 f5 z0 z1 z2
    obtain ⟨bm, a2, k2, a3, k3, rfl, hq, hbm, hm1, hm2, hbb⟩ := hcut
    have hzc := (S2.lt hq).2.2
    have hbmlt := heap_lt hbm
    have HWS := Lib.hid (fun W (h : Below wc.heap.size wc W) => HU.out wc W hq h)
    have HWM := Lib.hid (fun W (h : Below wc.heap.size wc W) => BoxIs.up hbm h)
    have HWN := Lib.hid (fun W (h : Below wc.heap.size wc W) => Reads.below HT.out.ns (HU.out wc W hq h).be)
    have HWE := Lib.hid (fun W (h : Below wc.heap.size wc W) => Reads.below HT.out.es (HU.out wc W hq h).be)
    have HW1 := Lib.hid (fun W (h : Below wc.heap.size wc W) => OwnE.below hm1 h (Nat.le_refl _))
    have HW2 := Lib.hid (fun W (h : Below wc.heap.size wc W) => OwnE.below hm2 h (Nat.le_refl _))
    have HQC := Lib.hid hq
    have HR1 : Hid (∀ W, Below wc.heap.size wc W → ∀ k, k < g.ns.length → ∃ b off, a2 = some ⟨b, off, none⟩ ∧ b < W.heap.size ∧ W.cell? ⟨b, off + k, none⟩ = some (.int .i64 (plc vs k))) := Lib.hid fun W h k hk => by
      obtain ⟨A, c, e, hR⟩ := OwnE.reads (HW1.out W h)
      simp only [Value.slice.injEq] at e
      obtain ⟨rfl, _, _⟩ := e
      obtain ⟨b, off, e1, e2, e3⟩ := Ints.cells hR (k := k) (by rw [HLP1.out]; exact hk)
      refine ⟨b, off, e1, e2, ?_⟩
      rw [e3 k (by rw [HLP1.out]; exact hk)]
      unfold plcs
      rw [coll_getD _ hk]
    have HR2 : Hid (∀ W, Below wc.heap.size wc W → ∀ k, k < g.es.length → ∃ b off, a3 = some ⟨b, off, none⟩ ∧ b < W.heap.size ∧ W.cell? ⟨b, off + k, none⟩ = some (.int .i64 (plc xs k))) := Lib.hid fun W h k hk => by
      obtain ⟨A, c, e, hR⟩ := OwnE.reads (HW2.out W h)
      simp only [Value.slice.injEq] at e
      obtain ⟨rfl, _, _⟩ := e
      obtain ⟨b, off, e1, e2, e3⟩ := Ints.cells hR (k := k) (by rw [HLP2.out]; exact hk)
      refine ⟨b, off, e1, e2, ?_⟩
      rw [e3 k (by rw [HLP2.out]; exact hk)]
      unfold plcs
      rw [coll_getD _ hk]
    have HL0 : Hid (BoxIs wc.heap.size (.slice none 0 0) (.slice none 0 0) 25 (wc.alloc (.cells #[.slice none 0 0, .slice none 0 0] 25 (0, 0)))) := Lib.hid (heap_alloc_new _ _)
    have HLB := Lib.hid (below_a wc (.cells #[.slice none 0 0, .slice none 0 0] 25 (0, 0)))
    have HKI := Lib.hid (fun (k : Nat) (h : (k : Int) ∈ vs) => show plc vs k = -1 ∧ remNs g vs (k + 1) = remNs g vs k from ⟨plc_in h, by simp only [remNs, coll]; rw [if_pos h, List.append_nil]⟩)
    have HKO := Lib.hid (fun (k : Nat) (h : ¬ (k : Int) ∈ vs) => show 0 ≤ plc vs k ∧ remNs g vs k ++ [g.ns.getD k 0] = remNs g vs (k + 1) from ⟨(plc_nonneg HVV.out (fun x hx => (HV0.out x hx).1)).2 h, by simp only [remNs, coll]; rw [if_neg h]⟩)
    have HKL : Hid (∀ k, (remNs g vs k).length ≤ k) := Lib.hid (coll_le fun i => by split <;> simp)
    have HK0 : Hid (remNs g vs 0 = []) := Lib.hid rfl
    obtain ⟨⟨c0, c1⟩, _⟩ := HWS.out _ HLB.out
    clear hq hbm hm1 hm2 HZ
    go_wp2_with fail
    clear c0 c1
    generalize plc vs = f at *
    go_loopw [39] (fun vi wr => ∃ (k : Nat) (vN : Value), k ≤ g.ns.length ∧ vi = .int .i64 k ∧ BoxIs wc.heap.size vN (.slice none 0 0) 25 wr ∧ OwnI wr (wc.heap.size + 1) vN (remNs g vs k) ∧ Below wc.heap.size wc wr) (fun vi _ => g.ns.length - (intOf vi).toNat)
    case atStart => exact ⟨0, _, Nat.zero_le _, rfl, HL0.out, by rw [HK0.out]; exact OwnE.nil _ _ _, HLB.out⟩
    case round =>
      obtain ⟨k, vN, hk, rfl, hbl, hown, hbel⟩ := hrel
      have HBL := Lib.hid hbl
      have HG := Lib.hid hbel
      have hsz := heap_lt hbl
      obtain ⟨ao, cap, rfl⟩ := OwnE.slice hown
      have HO := Lib.hid hown
      clear hbl hown hbel
      obtain ⟨⟨c0, c1⟩, _⟩ := HWS.out _ HG.out
      obtain ⟨m0, m1⟩ := BoxIs.cells (HWM.out _ HG.out)
      obtain ⟨b0, b1⟩ := BoxIs.cells HBL.out
      have bf := BoxIs.free HBL.out 0
      have z0 : w.heap.size < wr.heap.size := by omega
      have z1 : bm < wr.heap.size := by omega
      by_cases hlt : k < g.ns.length
      · obtain ⟨bb, off, rfl, hb, hc⟩ := Ints.cells (HWN.out _ HG.out) hlt
        obtain ⟨b2, off2, rfl, hb2, d0⟩ := HR1.out _ HG.out k hlt
        have k0 := hc k hlt
        have hbb9 : bb < wr.heap.size := by omega
        clear hc
        by_cases hin : (k : Int) ∈ vs
        · obtain ⟨e1, e2⟩ := HKI.out k hin
          have HE2 := Lib.hid e2
          rw [e1] at d0
          clear e1 e2 hin
          go_wp2_with fail
          go_roundw
          case rel => exact ⟨k + 1, _, by omega, by go_num, HBL.out, OwnE.cast HE2.out.symm HO.out, HG.out⟩
          case measure => simp [intOf]; omega
        · obtain ⟨e1, e2⟩ := HKO.out k hin
          have HE2 := Lib.hid e2
          have hle := HKL.out k
          clear e2 hin
          generalize g.ns.getD k 0 = y at k0 HE2
          generalize f k = z at d0 e1
          go_wp2_with (at_builtin; refine wpList_append_int (w := wr.alloc _) rfl _ _ rfl (wc.heap.size + 1) _ (remNs g vs k) rfl ?y1 wr.heap.size 1 y rfl ?y2 ?y3 ?y4 ?_)
          case y1 => exact HO.out.alloc _
          case y2 => exact cell_new _ _ _
          case y3 => omega
          case y4 => simp; omega
          intro v3 w3 ho3 hg3 hb3
          have hgr := Grow.own (HO.out.alloc _) hg3 hb3
          have HB3 := Lib.hid ((BoxIs.up HBL.out (below_a _ _)).grow (by decide) hgr)
          have HG3 := Lib.hid ((HG.out.trans ((below_a _ _).mono (by omega))).trans (hb3.mono (Nat.le_succ _)))
          have ho3' := OwnE.cast HE2.out ho3
          obtain ⟨ao3, cap3, rfl⟩ := OwnE.slice ho3'
          have HO3 := Lib.hid ho3'
          clear ho3 ho3' hg3 hb3 hgr b0 b1 bf
          obtain ⟨b0, b1⟩ := BoxIs.cells HB3.out
          have bf := BoxIs.free HB3.out 0
          go_wp2_with fail
          go_roundw
          case rel => exact ⟨k + 1, _, by omega, by go_num, BoxIs.set0 HB3.out _, OwnE.setBox HO3.out HB3.out (by decide) 0, HG3.out.setCell (p := ⟨wc.heap.size, 0, none⟩) (Nat.le_refl _) _⟩
          case measure => simp [intOf]; omega
      · have e : k = g.ns.length := by omega
        subst e
        obtain ⟨wo, hwo⟩ : ∃ wo, wo = wr := ⟨_, rfl⟩
        subst hwo
        clear HKI HKO HK0 hlt hk
        have HKI := Lib.hid (fun (k : Nat) (h : (k : Int) ∈ xs) => show plc xs k = -1 ∧ remEs g vs xs (k + 1) = remEs g vs xs k from ⟨plc_in h, by simp only [remEs, coll]; rw [if_pos h, List.append_nil]⟩)
        have HKO := Lib.hid (fun (k : Nat) (h : ¬ (k : Int) ∈ xs) => show 0 ≤ plc xs k ∧ remEs g vs xs k ++ [mvd g vs k] = remEs g vs xs (k + 1) from ⟨(plc_nonneg HXA.out (fun x hx => (HX0.out x hx).1)).2 h, by simp only [remEs, coll]; rw [if_neg h]⟩)
        have HKE : Hid (∀ k, (remEs g vs xs k).length ≤ k) := Lib.hid (coll_le fun i => by split <;> simp)
        have HK0 : Hid (remEs g vs xs 0 = []) := Lib.hid rfl
        have HMV := Lib.hid (fun (k : Nat) (hk : k < g.es.length) W (h : Below wc.heap.size wc W) => show Calls Try.prog 52 #[edv (g.es.getD k default), .slice a2 g.ns.length k2] W fun e w' => e = .returned (edv (mvd g vs k)) ∧ Below W.heap.size W w' by
          obtain ⟨A, c, e, hR⟩ := OwnE.reads (HW1.out W h)
          rw [HLP1.out] at e
          simp only [Value.slice.injEq] at e
          obtain ⟨rfl, _, rfl⟩ := e
          obtain ⟨⟨f1, f2⟩, f3, f4⟩ := valid_at HVA.out hk
          have := moveEnds_any (g.es.getD k default) (plcs vs g.ns.length) a2 k2 W (by rw [HLP1.out]; exact ⟨f1, f2⟩) (by rw [HLP1.out]; exact ⟨f3, f4⟩) hR
          rw [HLP1.out] at this
          have e1 : (plcs vs g.ns.length).getD (g.es.getD k default).fr.toNat 0 = plc vs (frN g k) := coll_getD _ (by omega) 0
          have e2 : (plcs vs g.ns.length).getD (g.es.getD k default).to.toNat 0 = plc vs (toN g k) := coll_getD _ (by omega) 0
          rw [e1, e2] at this
          exact this)
        go_wp2_with fail
        clear c0 c1 m0 m1 b0 b1 bf
        generalize plc xs = f2 at *
        go_loopw [60] (fun vi wr => ∃ (k : Nat) (vE : Value), k ≤ g.es.length ∧ vi = .int .i64 k ∧ BoxIs wc.heap.size (.slice ao (remNs g vs g.ns.length).length cap) vE 25 wr ∧ OwnI wr (wc.heap.size + 1) (.slice ao (remNs g vs g.ns.length).length cap) (remNs g vs g.ns.length) ∧ OwnEd wr (wc.heap.size + 1) vE (remEs g vs xs k) ∧ Below wc.heap.size wc wr) (fun vi _ => g.es.length - (intOf vi).toNat)
        case atStart => exact ⟨0, _, Nat.zero_le _, rfl, HBL.out, HO.out, by rw [HK0.out]; exact OwnE.nil _ _ _, HG.out⟩
        case round =>
          clear HBL HO HG z0 z1
          obtain ⟨k, vE, hk, rfl, hbl, hownN, hown, hbel⟩ := hrel
          have HBL := Lib.hid hbl
          have HG := Lib.hid hbel
          have hsz2 := heap_lt hbl
          obtain ⟨aE, capE, rfl⟩ := OwnE.slice hown
          have HO := Lib.hid hown
          have HON := Lib.hid hownN
          clear hbl hown hbel hownN
          obtain ⟨⟨c0, c1⟩, _⟩ := HWS.out _ HG.out
          obtain ⟨m0, m1⟩ := BoxIs.cells (HWM.out _ HG.out)
          obtain ⟨b0, b1⟩ := BoxIs.cells HBL.out
          have bf := BoxIs.free HBL.out 1
          have z0 : w.heap.size < wr.heap.size := by omega
          have z1 : bm < wr.heap.size := by omega
          by_cases hlt : k < g.es.length
          · obtain ⟨bb, off, rfl, hb, hc⟩ := Eds.cells (HWE.out _ HG.out) hlt
            have HGX := Lib.hid (HG.out.trans ((below_a wr (.cells #[.int .i64 (g.es.getD k default).ty, .int .i64 (g.es.getD k default).fr, .int .i64 (g.es.getD k default).to] 36 (0, 0))).mono (by omega)))
            have HXB : Hid (EdIs wr.heap.size (g.es.getD k default) (wr.alloc (.cells #[.int .i64 (g.es.getD k default).ty, .int .i64 (g.es.getD k default).fr, .int .i64 (g.es.getD k default).to] 36 (0, 0)))) := Lib.hid (heap_alloc_new _ _)
            have HBX := Lib.hid (BoxIs.up HBL.out (below_a wr (.cells #[.int .i64 (g.es.getD k default).ty, .int .i64 (g.es.getD k default).fr, .int .i64 (g.es.getD k default).to] 36 (0, 0))))
            have HOX := Lib.hid (HO.out.alloc (.cells #[.int .i64 (g.es.getD k default).ty, .int .i64 (g.es.getD k default).fr, .int .i64 (g.es.getD k default).to] 36 (0, 0)))
            have HONX := Lib.hid (HON.out.alloc (.cells #[.int .i64 (g.es.getD k default).ty, .int .i64 (g.es.getD k default).fr, .int .i64 (g.es.getD k default).to] 36 (0, 0)))
            obtain ⟨b2, off2, rfl, hb2, d0⟩ := HR2.out _ HG.out k hlt
            obtain ⟨k0, k1, k2⟩ := hc k hlt
            have hbb9 : bb < wr.heap.size := by omega
            have HMVk := Lib.hid (HMV.out k hlt)
            have hle := HKE.out k
            clear hc
            by_cases hin : (k : Int) ∈ xs
            · obtain ⟨e1, e2⟩ := HKI.out k hin
              have HE2 := Lib.hid e2
              rw [e1] at d0
              clear e1 e2 hin
              generalize g.es.getD k default = x at *
              go_wp2_with fail
              go_roundw
              case rel => exact ⟨k + 1, _, by omega, by go_num, HBX.out, HONX.out, OwnE.cast HE2.out.symm HOX.out, HGX.out⟩
              case measure => simp [intOf]; omega
            · obtain ⟨e1, e2⟩ := HKO.out k hin
              have HE2 := Lib.hid e2
              clear e2 hin
              generalize mvd g vs k = y at HMVk HE2
              generalize f2 k = z at d0 e1
              generalize g.es.getD k default = x at *
              go_wp2_with fail
              have hxs : wr.heap.size < (wr.alloc (.cells #[.int .i64 x.ty, .int .i64 x.fr, .int .i64 x.to] 36 (0, 0))).heap.size := by simp
              generalize wr.alloc (.cells #[.int .i64 x.ty, .int .i64 x.fr, .int .i64 x.to] 36 (0, 0)) = wx at *
              generalize wr.heap.size = bx at *
              clear c0 c1 m0 m1 b0 b1 bf d0 k0 k1 k2
              have HFX := Lib.hid (fun W (h : Below wx.heap.size wx W) => And.intro (BoxIs.cells (BoxIs.up HBX.out h)) (And.intro (BoxIs.free (BoxIs.up HBX.out h) 1) (And.intro (BoxIs.cells (HWM.out W (HGX.out.trans (h.mono HGX.out.size)))) (And.intro (cell3 (heap_up h HXB.out)) (show wc.heap.size < W.heap.size ∧ bm < W.heap.size ∧ bx < W.heap.size by have := h.size; omega)))))
              obtain ⟨⟨b0, b1⟩, bf, ⟨m0, m1⟩, ⟨k0, k1, k2⟩, s0, s1, s2⟩ := HFX.out _ (Below.refl _ wx)
              have HGXd := Lib.hid (HGX.out.trans ((below_d wx).mono HGX.out.size))
              go_region_law ((first
                | (refine step_append_G (E := EEd) (by rfl) _ _ 23 36 (by rfl) Try.underlying23 infoEd rfl (by decide) (by decide) (wc.heap.size + 1) (.slice aE (remEs g vs xs k).length capE) (remEs g vs xs k) (by rfl) (HOX.out.below (B := wx.heap.size) (by repeat (first | (with_reducible assumption) | (with_reducible refine Below.drew ?_) | (with_reducible refine below_al ?_ _))) (Nat.le_refl _)) ⟨_, 0, none⟩ 1 y (by rfl) (new_ed (heap_alloc_new _ _)) (by omega) (by simp; omega) ?_; intro v4 w4 ho4 hg4; have ho5 := OwnE.cast HE2.out ho4; obtain ⟨a4, c4, rfl⟩ := OwnE.slice ho5; have hb4 := (BoxIs.up HBX.out (by repeat (first | (with_reducible assumption) | (with_reducible refine Below.drew ?_) | (with_reducible refine below_al ?_ _)))).grow (by decide) hg4; have HB4 := Lib.hid hb4; clear hb4; obtain ⟨t6, t7⟩ := BoxIs.cells HB4.out; have tg := BoxIs.free HB4.out 1)
                | (go_simp; (with_reducible refine (HMVk.out _ (HGXd.out)).mono ?_); rintro e w3 ⟨rfl, hb3⟩; have hb3 : Below wx.heap.size wx w3 := (below_d wx).trans hb3; obtain ⟨⟨t0, t1⟩, tf, _, _, s3, s4, s5⟩ := HFX.out _ hb3)))
              all_goals
                have HG4 := Lib.hid (((HGX.out.trans (hb3.mono HGX.out.size)).trans ((below_a _ _).mono (by omega))).trans (hg4.1.mono (Nat.le_succ _)))
                have HN4 := Lib.hid (OwnE.setBox (x := .slice a4 (remEs g vs xs (k + 1)).length c4) (hg4.row (by decide) ((HONX.out.below hb3 (Nat.le_refl _)).alloc _)) HB4.out (by decide) 1)
                have HE4 := Lib.hid (OwnE.setBox (x := .slice a4 (remEs g vs xs (k + 1)).length c4) ho5 HB4.out (by decide) 1)
                have HB5 := Lib.hid (BoxIs.set1 HB4.out (.slice a4 (remEs g vs xs (k + 1)).length c4))
                clear ho4 ho5 hg4 t0 t1 tf t6 t7 tg b0 b1 bf m0 m1 k0 k1 k2 hb3
                go_wp2_with fail
                go_roundw
                case rel => exact ⟨k + 1, _, by omega, by go_num, HB5.out, HN4.out, HE4.out, HG4.out.setCell (p := ⟨wc.heap.size, 1, none⟩) (Nat.le_refl _) _⟩
                case measure => simp [intOf]; omega
          · have e : k = g.es.length := by omega
            subst e
            have HSF := Lib.hid (HWS.out _ HG.out)
            have HMF := Lib.hid (HWM.out _ HG.out)
            obtain ⟨_, ⟨⟨⟨q2, q3⟩, p2, p3⟩, ⟨q4, q5⟩, p4, p5⟩, _⟩ := HSF.out
            obtain ⟨y0, y1, y2⟩ := S2.lt HSF.out
            have HF1 := Lib.hid (HW1.out _ HG.out)
            have HF2 := Lib.hid (HW2.out _ HG.out)
            go_wp2_with fail
            go_region
            all_goals
              go_wp2_with fail
              first
                | (obtain ⟨hbb, h1, h2⟩ := S2.store HSF.out (.slice ao (remNs g vs g.ns.length).length cap) (.slice aE (remEs g vs xs g.es.length).length capE) (.slice a2 g.ns.length k2) (.slice a3 g.es.length k3)
                   obtain ⟨r0, r1⟩ := cell2 h1
                   obtain ⟨r2, r3⟩ := cell2 h2
                   have hi1 := IsI.up (isI_own (OwnE.set4 HON.out (g := w.heap.size + 1) (h := w.heap.size + 2) (by omega) (by omega) (.slice ao (remNs g vs g.ns.length).length cap) (.slice aE (remEs g vs xs g.es.length).length capE) (.slice a2 g.ns.length k2) (.slice a3 g.es.length k3))) (below_d _)
                   have hi2 := IsE.up (isE_own (OwnE.set4 HO.out (g := w.heap.size + 1) (h := w.heap.size + 2) (by omega) (by omega) (.slice ao (remNs g vs g.ns.length).length cap) (.slice aE (remEs g vs xs g.es.length).length capE) (.slice a2 g.ns.length k2) (.slice a3 g.es.length k3))) (below_d _)
                   have hi3 := IsI.up (isI_own (OwnE.set4 HF1.out (g := w.heap.size + 1) (h := w.heap.size + 2) (by omega) (by omega) (.slice ao (remNs g vs g.ns.length).length cap) (.slice aE (remEs g vs xs g.es.length).length capE) (.slice a2 g.ns.length k2) (.slice a3 g.es.length k3))) (below_d _)
                   have hi4 := IsI.up (isI_own (OwnE.set4 HF2.out (g := w.heap.size + 1) (h := w.heap.size + 2) (by omega) (by omega) (.slice ao (remNs g vs g.ns.length).length cap) (.slice aE (remEs g vs xs g.es.length).length capE) (.slice a2 g.ns.length k2) (.slice a3 g.es.length k3))) (below_d _)
                   refine bodyPost_ret (v := .tuple #[gval ao (remNs g vs g.ns.length).length cap aE (remEs g vs xs g.es.length).length capE, gval a2 g.ns.length k2 a3 g.es.length k3, .int .i64 0]) (by simp [results, Try.results21, go_sem, r0, r1, r2, r3]) rfl ?_
                   exact ⟨⟨_, _, rfl, by rw [HG2.out]; exact isG_of (g := ⟨remNs g vs g.ns.length, remEs g vs xs g.es.length⟩) hi1 hi2, by rw [HM2.out]; exact isM_of (g := ⟨plcs vs g.ns.length, plcs xs g.es.length⟩) hi3 hi4⟩, Below.drew hbb⟩)

end Go.Proofs.Ytiafmhdicgmfaaa
