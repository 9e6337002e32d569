import Derived.Test.YthnhacncnhknnaaDoorZ03
import Derived.Test.YthnhacncnhknnaaDoorZ09
import Derived.Deep.RegionLaw
import Derived.Deep.DeepCutAuto
import Derived.Deep.CutBlock
import Derived.Deep.RegionWith
import Derived.Test.YthnhacncnhknnaaDoorZ08
import Derived.Test.YthnhacncnhknnaaDoorZ05
import Derived.Sort.Statements
import Derived.Test.YthnhacncnhknnaaDoorZ06
import Derived.Test.YthnhacncnhknnaaDoorZ02
import Derived.Lib.TrailingZeros
import Derived.Shelf.Spec.TrailingZeros
import Derived.Sort.Grow
import Derived.Test.YthnhacncnhknnaaDoorZ01
import Derived.Test.YthnhacncnhknnaaDoorProg
import Derived.WalkKit
import Derived.WalkSpells
import Derived.WalkLawsBesides
import Derived.Lib.Hide
import Derived.BigQuiet
import Derived.Deep.QuietTactic
import Derived.StillTailTactics
import Derived.IntWalk
import Derived.ArgAppend
/-
  Graphs, the program: Remove.
-/
namespace Go.Proofs.YthnhacncnhknnaaDoor
open Go.RowKit

def RemC (f : FuncId) : Prop := ∀ (g : Gr) (vs xs : List Int) (An : Option Addr) (cn : Nat) (Ae : Option Addr) (ce : Nat) (Av Ax : Option Addr) (cv cx : Nat) (w : World), vs.length ≤ 1000 → xs.length ≤ 1000 → GrAt w An cn Ae ce g → Ints w w.heap.size Av vs → Ints w w.heap.size Ax xs →
  Calls Tryd.prog f #[gval An g.ns.length cn Ae g.es.length ce, .slice Av vs.length cv, .slice Ax xs.length cx] w fun e w' => (∃ v u, e = .returned (.tuple #[v, u, .int .i64 (remE g vs xs : Nat)]) ∧ IsG w' v (remG g vs xs) ∧ IsM w' u (remM g vs xs)) ∧ Below w.heap.size w w'

set_option maxRecDepth 100000 in
set_option maxHeartbeats 8000000 in
theorem remP : RemC 61 := by
  intro g vs xs An cn Ae ce Av Ax cv cx w lv lx hT hV hX
  have hs1 := S2.start w (.slice An g.ns.length cn) (.slice Ae g.es.length ce) (.slice none 0 0) (.slice none 0 0) (.slice none 0 0) (.slice none 0 0) 25 25 42
  have HC := Lib.hid (checkRemove_any g vs xs An cn Ae ce Av Ax cv cx _ (hT.up hs1.be) lv lx (Reads.up hV hs1.be) (Reads.up hX hs1.be))
  have HU := Lib.hid (fun W W' h hb => S2.up (w := w) (u := .slice An g.ns.length cn) (v := .slice Ae g.es.length ce) (t' := 25) (t := 25) (t2 := 42) (W := W) (W' := W') h hb)
  have HUA := Lib.hid (fun W o h => HU.out W (W.alloc o) h (below_a _ _))
  have HUAD := Lib.hid (fun W o h => HU.out W (W.alloc o).drew h (below_ad _ _))
  have HST := Lib.hid (fun W (h : S2 w (.slice An g.ns.length cn) (.slice Ae g.es.length ce) 25 25 42 W) b (hb : w.heap.size + 3 ≤ b) x y => S2.set (p := ⟨b, 1, none⟩) (S2.set (p := ⟨b, 0, none⟩) h hb x) hb y)
  have HZ := Lib.hid (fun h => rem_zero (g := g) (vs := vs) (xs := xs) h)
  have HG : Hid (remG g vs xs = if remE g vs xs = 0 then ⟨remNs g vs g.ns.length, remEs g vs xs g.es.length⟩ else noG) := Lib.hid rfl
  have HM : Hid (remM g vs xs = if remE g vs xs = 0 then ⟨plcs vs g.ns.length, plcs xs g.es.length⟩ else noM) := Lib.hid rfl
  have HT := Lib.hid hT
  have HV := Lib.hid hV
  have HX := Lib.hid hX
  have HS1 := Lib.hid hs1
  clear hT hs1 hV hX
  generalize remG g vs xs = rg at HG ⊢
  generalize remM g vs xs = rm at HM ⊢
  generalize remE g vs xs = R at HC HZ HG HM ⊢
  go_enter Tryd.func61, Tryd.ntmps61
  go_wp2_with fail
  refine HC.out.mono ?_
  rintro e w1 ⟨rfl, hb1⟩
  have HQ1 := Lib.hid (HU.out _ _ HS1.out hb1)
  clear hb1
  obtain ⟨⟨c0, c1⟩, ⟨⟨⟨c2, c3⟩, f2, f3⟩, ⟨c4, c5⟩, f4, f5⟩, _⟩ := HQ1.out
  obtain ⟨z0, z1, z2⟩ := S2.lt HQ1.out
  by_cases hR : R = 0
  case neg =>
    have HG2 := Lib.hid (show rg = noG by rw [HG.out, if_neg hR])
    have HM2 := Lib.hid (show rm = noM by rw [HM.out, if_neg hR])
    have t1 : ((R : Int) != 0) = true := by simp; omega
    clear hR
    go_wp2_with fail
    obtain ⟨hbb, h1, h2⟩ := S2.store HQ1.out (.slice none 0 0) (.slice none 0 0) (.slice none 0 0) (.slice none 0 0)
    obtain ⟨r0, r1⟩ := cell2 h1
    obtain ⟨r2, r3⟩ := cell2 h2
    refine bodyPost_ret (v := .tuple #[gval none 0 0 none 0 0, gval none 0 0 none 0 0, .int .i64 (R : Nat)]) (by simp [results, Tryd.results61, go_sem, r0, r1, r2, r3]) rfl ?_
    exact ⟨⟨_, _, rfl, by rw [HG2.out]; exact isG_nil _, by rw [HM2.out]; exact isM_nil _⟩, hbb⟩
  subst hR
  obtain ⟨hz1, hz2, hz3, _⟩ := HZ.out rfl
  obtain ⟨l1, l2, _⟩ := valid_zero hz1
  obtain ⟨v0, va⟩ := asc_zero hz2
  obtain ⟨x0, xa⟩ := asc_zero hz3
  have HG2 := Lib.hid (show rg = ⟨remNs g vs g.ns.length, remEs g vs xs g.es.length⟩ by rw [HG.out, if_pos rfl])
  have HM2 := Lib.hid (show rm = ⟨plcs vs g.ns.length, plcs xs g.es.length⟩ by rw [HM.out, if_pos rfl])
  have HP1 := Lib.hid (fun W (h : S2 w (.slice An g.ns.length cn) (.slice Ae g.es.length ce) 25 25 42 W) => placesP_any vs g.ns.length Av cv W lv (by omega) va (fun x hx => (v0 x hx).1) (Reads.up HV.out h.be))
  have HP2 := Lib.hid (fun W (h : S2 w (.slice An g.ns.length cn) (.slice Ae g.es.length ce) 25 25 42 W) => placesP_any xs g.es.length Ax cx W lx (by omega) xa (fun x hx => (x0 x hx).1) (Reads.up HX.out h.be))
  have HVA := Lib.hid hz1
  have HV0 := Lib.hid v0
  have HX0 := Lib.hid x0
  have HVV := Lib.hid va
  have HXA := Lib.hid xa
  have HLP1 : Hid ((plcs vs g.ns.length).length = g.ns.length) := Lib.hid (coll_len _ _)
  have HLP2 : Hid ((plcs xs g.es.length).length = g.es.length) := Lib.hid (coll_len _ _)
  have HQ1d := Lib.hid (HU.out _ _ HQ1.out (below_d _))
  clear HC HG HM hz1 hz2 hz3 v0 va x0 xa
  go_upto_region 4 with (fail)
  go_cut [10] (fun u wx => ∃ bm a2 k2 a3 k3, u = .pointer (some ⟨bm, 0, none⟩) ∧ S2 w (.slice An g.ns.length cn) (.slice Ae g.es.length ce) 25 25 42 wx ∧ BoxIs bm (.slice a2 g.ns.length k2) (.slice a3 g.es.length k3) 42 wx ∧ OwnI wx (w.heap.size + 3) (.slice a2 g.ns.length k2) (plcs vs g.ns.length) ∧ OwnI wx (w.heap.size + 3) (.slice a3 g.es.length k3) (plcs xs g.es.length) ∧ w.heap.size + 3 ≤ bm)
  case first =>
    go_wp2_with fail
    go_region_held3 (S2 w (.slice An g.ns.length cn) (.slice Ae g.es.length ce) 25 25 42)
      (first | assumption | exact HQ1d.out | exact HUA.out _ _ (by first | assumption | exact HQ1d.out) | exact HUAD.out _ _ (by first | assumption | exact HQ1.out) | exact HST.out _ (by assumption) _ (by omega) _ _)
      ((first
        | (with_reducible refine (HP1.out _ (by first | assumption | exact HQ1d.out)).mono ?_; rintro e w2 ⟨v2, rfl, ho2, hb2⟩; have hq2 := HU.out _ _ (by first | assumption | exact HQ1d.out) hb2; obtain ⟨hc2, hf2⟩ := bcell hb2; obtain ⟨_, _, hz2⟩ := S2.lt hq2; (try (have hy2 : w1.heap.size < w2.heap.size := by have := hb2.size; simp at this; omega)); obtain ⟨ao2, cap2, e2⟩ := OwnE.slice ho2; rw [HLP1.out] at e2; subst e2)
        | (with_reducible refine (HP2.out _ (by first | assumption | exact HQ1d.out)).mono ?_; rintro e w3 ⟨v3, rfl, ho3, hb3⟩; have hq3 := HU.out _ _ (by first | assumption | exact HQ1d.out) hb3; obtain ⟨hc3, hf3⟩ := bcell hb3; obtain ⟨_, _, hz3⟩ := S2.lt hq3; obtain ⟨ao3, cap3, e3⟩ := OwnE.slice ho3; rw [HLP2.out] at e3; subst e3)))
    · have hbase2 : w.heap.size + 3 ≤ w3.heap.size := by omega
      have HF1 := Lib.hid (ho2.mono (base' := w.heap.size + 3) (by simp; omega))
      have HF2 := Lib.hid (ho3.mono (base' := w.heap.size + 3) (by omega))
      have HF3 := Lib.hid ((HF1.out.below hb3 (Nat.le_refl _)).alloc (.cells #[.slice ao2 g.ns.length cap2, .slice ao3 g.es.length cap3] 42 (0, 0)))
      have HSS := Lib.hid (HUA.out _ (.cells #[.slice ao2 g.ns.length cap2, .slice ao3 g.es.length cap3] 42 (0, 0)) hq3)
      clear hc2 hf2 hc3 hf3 ho2 ho3 hb2 hb3 hq2 hq3
      go_wp2_with fail
      go_meet
      exact ⟨_, _, _, _, _, rfl, HSS.out, heap_alloc_new _ _, HF3.out, HF2.out.alloc _, hbase2⟩
    · have hbase2 : w.heap.size + 3 ≤ w2.heap.size := by omega
      have hB : Blk w2.heap.size 42 w3 := Blk.up ⟨_, _, heap_alloc_new _ _⟩ hb3
      have HF1 := Lib.hid (OwnE.store2 ((ho2.mono (base' := w.heap.size + 3) (by simp; omega)).below ((below_a _ _).trans (hb3.mono (by simp))) (Nat.le_refl _)) hB (by decide) (.slice ao2 g.ns.length cap2) (.slice ao3 g.es.length cap3))
      have HF2 := Lib.hid (OwnE.store2 (ho3.mono (base' := w.heap.size + 3) (by simp; omega)) hB (by decide) (.slice ao2 g.ns.length cap2) (.slice ao3 g.es.length cap3))
      have HF3 := Lib.hid (store2 hB (.slice ao2 g.ns.length cap2) (.slice ao3 g.es.length cap3))
      have HSS := Lib.hid (HST.out _ hq3 w2.heap.size hbase2 (.slice ao2 g.ns.length cap2) (.slice ao3 g.es.length cap3))
      clear hc2 hf2 hc3 hf3 ho2 ho3 hb2 hb3 hq2 hq3 hB
      go_wp2_with fail
      go_meet
      exact ⟨_, _, _, _, _, rfl, HSS.out, HF3.out, HF1.out, HF2.out, hbase2⟩
    · have hbase2 : w.heap.size + 3 ≤ w1.heap.size := by omega
      have hB : Blk w1.heap.size 42 w3 := (Blk.up (Blk.up ⟨_, _, heap_alloc_new w1 _⟩ (below_d _)) hb2).up hb3
      have HF1 := Lib.hid (OwnE.store2 ((ho2.mono (base' := w.heap.size + 3) (by simp; omega)).below hb3 (Nat.le_refl _)) hB (by decide) (.slice ao2 g.ns.length cap2) (.slice ao3 g.es.length cap3))
      have HF2 := Lib.hid (OwnE.store2 (ho3.mono (base' := w.heap.size + 3) (by omega)) hB (by decide) (.slice ao2 g.ns.length cap2) (.slice ao3 g.es.length cap3))
      have HF3 := Lib.hid (store2 hB (.slice ao2 g.ns.length cap2) (.slice ao3 g.es.length cap3))
      have HSS := Lib.hid (HST.out _ hq3 w1.heap.size hbase2 (.slice ao2 g.ns.length cap2) (.slice ao3 g.es.length cap3))
      clear hc2 hf2 hc3 hf3 ho2 ho3 hb2 hb3 hq2 hq3 hB
      go_wp2_with fail
      go_meet
      exact ⟨_, _, _, _, _, rfl, HSS.out, HF3.out, HF1.out, HF2.out, hbase2⟩
  case rest =>
    clear HQ1d HP1 HP2 HQ1 c0 c1 c2 c3 c4 c5 f2 f3 f4 f5 z0 z1 z2
    obtain ⟨bm, a2, k2, a3, k3, rfl, hq, hbm, hm1, hm2, hbb⟩ := hcut
    have hzc := (S2.lt hq).2.2
    have hbmlt := heap_lt hbm
    have HWS := Lib.hid (fun W (h : Below wc.heap.size wc W) => HU.out wc W hq h)
    have HWM := Lib.hid (fun W (h : Below wc.heap.size wc W) => BoxIs.up hbm h)
    have HWN := Lib.hid (fun W (h : Below wc.heap.size wc W) => Reads.below HT.out.ns (HU.out wc W hq h).be)
    have HWE := Lib.hid (fun W (h : Below wc.heap.size wc W) => Reads.below HT.out.es (HU.out wc W hq h).be)
    have HW1 := Lib.hid (fun W (h : Below wc.heap.size wc W) => OwnE.below hm1 h (Nat.le_refl _))
    have HW2 := Lib.hid (fun W (h : Below wc.heap.size wc W) => OwnE.below hm2 h (Nat.le_refl _))
    have HQC := Lib.hid hq
    have HR1 : Hid (∀ W, Below wc.heap.size wc W → ∀ k, k < g.ns.length → ∃ b off, a2 = some ⟨b, off, none⟩ ∧ b < W.heap.size ∧ W.cell? ⟨b, off + k, none⟩ = some (.int .i64 (plc vs k))) := Lib.hid fun W h k hk => by
      obtain ⟨A, c, e, hR⟩ := OwnE.reads (HW1.out W h)
      simp only [Value.slice.injEq] at e
      obtain ⟨rfl, _, _⟩ := e
      obtain ⟨b, off, e1, e2, e3⟩ := Ints.cells hR (k := k) (by rw [HLP1.out]; exact hk)
      refine ⟨b, off, e1, e2, ?_⟩
      rw [e3 k (by rw [HLP1.out]; exact hk)]
      unfold plcs
      rw [coll_getD _ hk]
    have HR2 : Hid (∀ W, Below wc.heap.size wc W → ∀ k, k < g.es.length → ∃ b off, a3 = some ⟨b, off, none⟩ ∧ b < W.heap.size ∧ W.cell? ⟨b, off + k, none⟩ = some (.int .i64 (plc xs k))) := Lib.hid fun W h k hk => by
      obtain ⟨A, c, e, hR⟩ := OwnE.reads (HW2.out W h)
      simp only [Value.slice.injEq] at e
      obtain ⟨rfl, _, _⟩ := e
      obtain ⟨b, off, e1, e2, e3⟩ := Ints.cells hR (k := k) (by rw [HLP2.out]; exact hk)
      refine ⟨b, off, e1, e2, ?_⟩
      rw [e3 k (by rw [HLP2.out]; exact hk)]
      unfold plcs
      rw [coll_getD _ hk]
    have HL0 : Hid (BoxIs wc.heap.size (.slice none 0 0) (.slice none 0 0) 25 (wc.alloc (.cells #[.slice none 0 0, .slice none 0 0] 25 (0, 0)))) := Lib.hid (heap_alloc_new _ _)
    have HLB := Lib.hid (below_a wc (.cells #[.slice none 0 0, .slice none 0 0] 25 (0, 0)))
    have HKI := Lib.hid (fun (k : Nat) (h : (k : Int) ∈ vs) => show plc vs k = -1 ∧ remNs g vs (k + 1) = remNs g vs k from ⟨plc_in h, by simp only [remNs, coll]; rw [if_pos h, List.append_nil]⟩)
    have HKO := Lib.hid (fun (k : Nat) (h : ¬ (k : Int) ∈ vs) => show 0 ≤ plc vs k ∧ remNs g vs k ++ [g.ns.getD k 0] = remNs g vs (k + 1) from ⟨(plc_nonneg HVV.out (fun x hx => (HV0.out x hx).1)).2 h, by simp only [remNs, coll]; rw [if_neg h]⟩)
    have HKL : Hid (∀ k, (remNs g vs k).length ≤ k) := Lib.hid (coll_le fun i => by split <;> simp)
    have HK0 : Hid (remNs g vs 0 = []) := Lib.hid rfl
    obtain ⟨⟨c0, c1⟩, _⟩ := HWS.out _ HLB.out
    clear hq hbm hm1 hm2 HZ
    go_wp2_with fail
    clear c0 c1
    generalize plc vs = f at *
    go_loopw [39] (fun vi wr => ∃ (k : Nat) (vN : Value), k ≤ g.ns.length ∧ vi = .int .i64 k ∧ BoxIs wc.heap.size vN (.slice none 0 0) 25 wr ∧ OwnI wr (wc.heap.size + 1) vN (remNs g vs k) ∧ Below wc.heap.size wc wr) (fun vi _ => g.ns.length - (intOf vi).toNat)
    case atStart => exact ⟨0, _, Nat.zero_le _, rfl, HL0.out, by rw [HK0.out]; exact OwnE.nil _ _ _, HLB.out⟩
    case round =>
      obtain ⟨k, vN, hk, rfl, hbl, hown, hbel⟩ := hrel
      have HBL := Lib.hid hbl
      have HG := Lib.hid hbel
      have hsz := heap_lt hbl
      obtain ⟨ao, cap, rfl⟩ := OwnE.slice hown
      have HO := Lib.hid hown
      clear hbl hown hbel
      obtain ⟨⟨c0, c1⟩, _⟩ := HWS.out _ HG.out
      obtain ⟨m0, m1⟩ := BoxIs.cells (HWM.out _ HG.out)
      obtain ⟨b0, b1⟩ := BoxIs.cells HBL.out
      have bf := BoxIs.free HBL.out 0
      have z0 : w.heap.size < wr.heap.size := by omega
      have z1 : bm < wr.heap.size := by omega
      by_cases hlt : k < g.ns.length
      · obtain ⟨bb, off, rfl, hb, hc⟩ := Ints.cells (HWN.out _ HG.out) hlt
        obtain ⟨b2, off2, rfl, hb2, d0⟩ := HR1.out _ HG.out k hlt
        have k0 := hc k hlt
        have hbb9 : bb < wr.heap.size := by omega
        clear hc
        by_cases hin : (k : Int) ∈ vs
        · obtain ⟨e1, e2⟩ := HKI.out k hin
          have HE2 := Lib.hid e2
          rw [e1] at d0
          clear e1 e2 hin
          go_wp2_with fail
          go_roundw
          case rel => exact ⟨k + 1, _, by omega, by go_num, HBL.out, OwnE.cast HE2.out.symm HO.out, HG.out⟩
          case measure => simp [intOf]; omega
        · obtain ⟨e1, e2⟩ := HKO.out k hin
          have HE2 := Lib.hid e2
          have hle := HKL.out k
          clear e2 hin
          generalize g.ns.getD k 0 = y at k0 HE2
          generalize f k = z at d0 e1
          go_wp2_with (at_builtin; refine wpList_append_int (w := wr.alloc _) rfl _ _ rfl (wc.heap.size + 1) _ (remNs g vs k) rfl ?y1 wr.heap.size 1 y rfl ?y2 ?y3 ?y4 ?_)
          case y1 => exact HO.out.alloc _
          case y2 => exact cell_new _ _ _
          case y3 => omega
          case y4 => simp; omega
          intro v3 w3 ho3 hg3 hb3
          have hgr := Grow.own (HO.out.alloc _) hg3 hb3
          have HB3 := Lib.hid ((BoxIs.up HBL.out (below_a _ _)).grow (by decide) hgr)
          have HG3 := Lib.hid ((HG.out.trans ((below_a _ _).mono (by omega))).trans (hb3.mono (Nat.le_succ _)))
          have ho3' := OwnE.cast HE2.out ho3
          obtain ⟨ao3, cap3, rfl⟩ := OwnE.slice ho3'
          have HO3 := Lib.hid ho3'
          clear ho3 ho3' hg3 hb3 hgr b0 b1 bf
          obtain ⟨b0, b1⟩ := BoxIs.cells HB3.out
          have bf := BoxIs.free HB3.out 0
          go_wp2_with fail
          go_roundw
          case rel => exact ⟨k + 1, _, by omega, by go_num, BoxIs.set0 HB3.out _, OwnE.setBox HO3.out HB3.out (by decide) 0, HG3.out.setCell (p := ⟨wc.heap.size, 0, none⟩) (Nat.le_refl _) _⟩
          case measure => simp [intOf]; omega
      · have e : k = g.ns.length := by omega
        subst e
        obtain ⟨wo, hwo⟩ : ∃ wo, wo = wr := ⟨_, rfl⟩
        subst hwo
        clear HKI HKO HK0 hlt hk
        have HKI := Lib.hid (fun (k : Nat) (h : (k : Int) ∈ xs) => show plc xs k = -1 ∧ remEs g vs xs (k + 1) = remEs g vs xs k from ⟨plc_in h, by simp only [remEs, coll]; rw [if_pos h, List.append_nil]⟩)
        have HKO := Lib.hid (fun (k : Nat) (h : ¬ (k : Int) ∈ xs) => show 0 ≤ plc xs k ∧ remEs g vs xs k ++ [mvd g vs k] = remEs g vs xs (k + 1) from ⟨(plc_nonneg HXA.out (fun x hx => (HX0.out x hx).1)).2 h, by simp only [remEs, coll]; rw [if_neg h]⟩)
        have HKE : Hid (∀ k, (remEs g vs xs k).length ≤ k) := Lib.hid (coll_le fun i => by split <;> simp)
        have HK0 : Hid (remEs g vs xs 0 = []) := Lib.hid rfl
        have HMV := Lib.hid (fun (k : Nat) (hk : k < g.es.length) W (h : Below wc.heap.size wc W) => show Calls Tryd.prog 90 #[edv (g.es.getD k default), .slice a2 g.ns.length k2] W fun e w' => e = .returned (edv (mvd g vs k)) ∧ Below W.heap.size W w' by
          obtain ⟨A, c, e, hR⟩ := OwnE.reads (HW1.out W h)
          rw [HLP1.out] at e
          simp only [Value.slice.injEq] at e
          obtain ⟨rfl, _, rfl⟩ := e
          obtain ⟨⟨f1, f2⟩, f3, f4⟩ := valid_at HVA.out hk
          have := moveEnds_any (g.es.getD k default) (plcs vs g.ns.length) a2 k2 W (by rw [HLP1.out]; exact ⟨f1, f2⟩) (by rw [HLP1.out]; exact ⟨f3, f4⟩) hR
          rw [HLP1.out] at this
          have e1 : (plcs vs g.ns.length).getD (g.es.getD k default).fr.toNat 0 = plc vs (frN g k) := coll_getD _ (by omega) 0
          have e2 : (plcs vs g.ns.length).getD (g.es.getD k default).tq.toNat 0 = plc vs (toN g k) := coll_getD _ (by omega) 0
          rw [e1, e2] at this
          exact this)
        go_wp2_with fail
        clear c0 c1 m0 m1 b0 b1 bf
        generalize plc xs = f2 at *
        go_loopw [60] (fun vi wr => ∃ (k : Nat) (vE : Value), k ≤ g.es.length ∧ vi = .int .i64 k ∧ BoxIs wc.heap.size (.slice ao (remNs g vs g.ns.length).length cap) vE 25 wr ∧ OwnI wr (wc.heap.size + 1) (.slice ao (remNs g vs g.ns.length).length cap) (remNs g vs g.ns.length) ∧ OwnEd wr (wc.heap.size + 1) vE (remEs g vs xs k) ∧ Below wc.heap.size wc wr) (fun vi _ => g.es.length - (intOf vi).toNat)
        case atStart => exact ⟨0, _, Nat.zero_le _, rfl, HBL.out, HO.out, by rw [HK0.out]; exact OwnE.nil _ _ _, HG.out⟩
        case round =>
          clear HBL HO HG z0 z1
          obtain ⟨k, vE, hk, rfl, hbl, hownN, hown, hbel⟩ := hrel
          have HBL := Lib.hid hbl
          have HG := Lib.hid hbel
          have hsz2 := heap_lt hbl
          obtain ⟨aE, capE, rfl⟩ := OwnE.slice hown
          have HO := Lib.hid hown
          have HON := Lib.hid hownN
          clear hbl hown hbel hownN
          obtain ⟨⟨c0, c1⟩, _⟩ := HWS.out _ HG.out
          obtain ⟨m0, m1⟩ := BoxIs.cells (HWM.out _ HG.out)
          obtain ⟨b0, b1⟩ := BoxIs.cells HBL.out
          have bf := BoxIs.free HBL.out 1
          have z0 : w.heap.size < wr.heap.size := by omega
          have z1 : bm < wr.heap.size := by omega
          by_cases hlt : k < g.es.length
          · obtain ⟨bb, off, rfl, hb, hc⟩ := Eds.cells (HWE.out _ HG.out) hlt
            have HGX := Lib.hid (HG.out.trans ((below_a wr (.cells #[.int .i64 (g.es.getD k default).ty, .int .i64 (g.es.getD k default).fr, .int .i64 (g.es.getD k default).tq] 73 (0, 0))).mono (by omega)))
            have HXB : Hid (EdIs wr.heap.size (g.es.getD k default) (wr.alloc (.cells #[.int .i64 (g.es.getD k default).ty, .int .i64 (g.es.getD k default).fr, .int .i64 (g.es.getD k default).tq] 73 (0, 0)))) := Lib.hid (heap_alloc_new _ _)
            have HBX := Lib.hid (BoxIs.up HBL.out (below_a wr (.cells #[.int .i64 (g.es.getD k default).ty, .int .i64 (g.es.getD k default).fr, .int .i64 (g.es.getD k default).tq] 73 (0, 0))))
            have HOX := Lib.hid (HO.out.alloc (.cells #[.int .i64 (g.es.getD k default).ty, .int .i64 (g.es.getD k default).fr, .int .i64 (g.es.getD k default).tq] 73 (0, 0)))
            have HONX := Lib.hid (HON.out.alloc (.cells #[.int .i64 (g.es.getD k default).ty, .int .i64 (g.es.getD k default).fr, .int .i64 (g.es.getD k default).tq] 73 (0, 0)))
            obtain ⟨b2, off2, rfl, hb2, d0⟩ := HR2.out _ HG.out k hlt
            obtain ⟨k0, k1, k2⟩ := hc k hlt
            have hbb9 : bb < wr.heap.size := by omega
            have HMVk := Lib.hid (HMV.out k hlt)
            have hle := HKE.out k
            clear hc
            by_cases hin : (k : Int) ∈ xs
            · obtain ⟨e1, e2⟩ := HKI.out k hin
              have HE2 := Lib.hid e2
              rw [e1] at d0
              clear e1 e2 hin
              generalize g.es.getD k default = x at *
              go_wp2_with fail
              go_roundw
              case rel => exact ⟨k + 1, _, by omega, by go_num, HBX.out, HONX.out, OwnE.cast HE2.out.symm HOX.out, HGX.out⟩
              case measure => simp [intOf]; omega
            · obtain ⟨e1, e2⟩ := HKO.out k hin
              have HE2 := Lib.hid e2
              clear e2 hin
              generalize mvd g vs k = y at HMVk HE2
              generalize f2 k = z at d0 e1
              generalize g.es.getD k default = x at *
              go_wp2_with fail
              have hxs : wr.heap.size < (wr.alloc (.cells #[.int .i64 x.ty, .int .i64 x.fr, .int .i64 x.tq] 73 (0, 0))).heap.size := by simp
              generalize wr.alloc (.cells #[.int .i64 x.ty, .int .i64 x.fr, .int .i64 x.tq] 73 (0, 0)) = wx at *
              generalize wr.heap.size = bx at *
              clear c0 c1 m0 m1 b0 b1 bf d0 k0 k1 k2
              have HFX := Lib.hid (fun W (h : Below wx.heap.size wx W) => And.intro (BoxIs.cells (BoxIs.up HBX.out h)) (And.intro (BoxIs.free (BoxIs.up HBX.out h) 1) (And.intro (BoxIs.cells (HWM.out W (HGX.out.trans (h.mono HGX.out.size)))) (And.intro (cell3 (heap_up h HXB.out)) (show wc.heap.size < W.heap.size ∧ bm < W.heap.size ∧ bx < W.heap.size by have := h.size; omega)))))
              obtain ⟨⟨b0, b1⟩, bf, ⟨m0, m1⟩, ⟨k0, k1, k2⟩, s0, s1, s2⟩ := HFX.out _ (Below.refl _ wx)
              have HGXd := Lib.hid (HGX.out.trans ((below_d wx).mono HGX.out.size))
              go_region_law ((first
                | (refine step_append_G (E := EEd) (by rfl) _ _ 23 73 (by rfl) Tryd.underlying23 infoEd rfl (by decide) (by decide) (wc.heap.size + 1) (.slice aE (remEs g vs xs k).length capE) (remEs g vs xs k) (by rfl) (HOX.out.below (B := wx.heap.size) (by repeat (first | (with_reducible assumption) | (with_reducible refine Below.drew ?_) | (with_reducible refine below_al ?_ _))) (Nat.le_refl _)) ⟨_, 0, none⟩ 1 y (by rfl) (new_ed (heap_alloc_new _ _)) (by omega) (by simp; omega) ?_; intro v4 w4 ho4 hg4; have ho5 := OwnE.cast HE2.out ho4; obtain ⟨a4, c4, rfl⟩ := OwnE.slice ho5; have hb4 := (BoxIs.up HBX.out (by repeat (first | (with_reducible assumption) | (with_reducible refine Below.drew ?_) | (with_reducible refine below_al ?_ _)))).grow (by decide) hg4; have HB4 := Lib.hid hb4; clear hb4; obtain ⟨t6, t7⟩ := BoxIs.cells HB4.out; have tg := BoxIs.free HB4.out 1)
                | (go_simp; (with_reducible refine (HMVk.out _ (HGXd.out)).mono ?_); rintro e w3 ⟨rfl, hb3⟩; have hb3 : Below wx.heap.size wx w3 := (below_d wx).trans hb3; obtain ⟨⟨t0, t1⟩, tf, _, _, s3, s4, s5⟩ := HFX.out _ hb3)))
              all_goals
                have HG4 := Lib.hid (((HGX.out.trans (hb3.mono HGX.out.size)).trans ((below_a _ _).mono (by omega))).trans (hg4.1.mono (Nat.le_succ _)))
                have HN4 := Lib.hid (OwnE.setBox (x := .slice a4 (remEs g vs xs (k + 1)).length c4) (hg4.row (by decide) ((HONX.out.below hb3 (Nat.le_refl _)).alloc _)) HB4.out (by decide) 1)
                have HE4 := Lib.hid (OwnE.setBox (x := .slice a4 (remEs g vs xs (k + 1)).length c4) ho5 HB4.out (by decide) 1)
                have HB5 := Lib.hid (BoxIs.set1 HB4.out (.slice a4 (remEs g vs xs (k + 1)).length c4))
                clear ho4 ho5 hg4 t0 t1 tf t6 t7 tg b0 b1 bf m0 m1 k0 k1 k2 hb3
                go_wp2_with fail
                go_roundw
                case rel => exact ⟨k + 1, _, by omega, by go_num, HB5.out, HN4.out, HE4.out, HG4.out.setCell (p := ⟨wc.heap.size, 1, none⟩) (Nat.le_refl _) _⟩
                case measure => simp [intOf]; omega
          · have e : k = g.es.length := by omega
            subst e
            have HSF := Lib.hid (HWS.out _ HG.out)
            have HMF := Lib.hid (HWM.out _ HG.out)
            obtain ⟨_, ⟨⟨⟨q2, q3⟩, p2, p3⟩, ⟨q4, q5⟩, p4, p5⟩, _⟩ := HSF.out
            obtain ⟨y0, y1, y2⟩ := S2.lt HSF.out
            have HF1 := Lib.hid (HW1.out _ HG.out)
            have HF2 := Lib.hid (HW2.out _ HG.out)
            go_wp2_with fail
            go_region
            all_goals
              go_wp2_with fail
              first
                | (obtain ⟨hbb, h1, h2⟩ := S2.store HSF.out (.slice ao (remNs g vs g.ns.length).length cap) (.slice aE (remEs g vs xs g.es.length).length capE) (.slice a2 g.ns.length k2) (.slice a3 g.es.length k3)
                   obtain ⟨r0, r1⟩ := cell2 h1
                   obtain ⟨r2, r3⟩ := cell2 h2
                   have hi1 := IsI.up (isI_own (OwnE.set4 HON.out (g := w.heap.size + 1) (h := w.heap.size + 2) (by omega) (by omega) (.slice ao (remNs g vs g.ns.length).length cap) (.slice aE (remEs g vs xs g.es.length).length capE) (.slice a2 g.ns.length k2) (.slice a3 g.es.length k3))) (below_d _)
                   have hi2 := IsE.up (isE_own (OwnE.set4 HO.out (g := w.heap.size + 1) (h := w.heap.size + 2) (by omega) (by omega) (.slice ao (remNs g vs g.ns.length).length cap) (.slice aE (remEs g vs xs g.es.length).length capE) (.slice a2 g.ns.length k2) (.slice a3 g.es.length k3))) (below_d _)
                   have hi3 := IsI.up (isI_own (OwnE.set4 HF1.out (g := w.heap.size + 1) (h := w.heap.size + 2) (by omega) (by omega) (.slice ao (remNs g vs g.ns.length).length cap) (.slice aE (remEs g vs xs g.es.length).length capE) (.slice a2 g.ns.length k2) (.slice a3 g.es.length k3))) (below_d _)
                   have hi4 := IsI.up (isI_own (OwnE.set4 HF2.out (g := w.heap.size + 1) (h := w.heap.size + 2) (by omega) (by omega) (.slice ao (remNs g vs g.ns.length).length cap) (.slice aE (remEs g vs xs g.es.length).length capE) (.slice a2 g.ns.length k2) (.slice a3 g.es.length k3))) (below_d _)
                   refine bodyPost_ret (v := .tuple #[gval ao (remNs g vs g.ns.length).length cap aE (remEs g vs xs g.es.length).length capE, gval a2 g.ns.length k2 a3 g.es.length k3, .int .i64 0]) (by simp [results, Tryd.results61, go_sem, r0, r1, r2, r3]) rfl ?_
                   exact ⟨⟨_, _, rfl, by rw [HG2.out]; exact isG_of (g := ⟨remNs g vs g.ns.length, remEs g vs xs g.es.length⟩) hi1 hi2, by rw [HM2.out]; exact isM_of (g := ⟨plcs vs g.ns.length, plcs xs g.es.length⟩) hi3 hi4⟩, Below.drew hbb⟩)

end Go.Proofs.YthnhacncnhknnaaDoor

/-
  Parts of graphs, the program: Boundary, Extract. Printed by mkg6.py.
-/
namespace Go.Proofs.YthnhacncnhknnaaDoor
open Go.RowKit Go.Shelf

theorem reads_box7 {α : Type} {E : El α} (hE : ∀ x u, u ∈ E.enc x → ∀ a n c, u ≠ .slice a n c) {w w' : World} {B : Nat} {A : Option Addr} {xs : List α} (h : Reads E w B A xs) {g : Nat} {a a' : Option Addr} {n c n' c' : Nat} {t : TypeId} (hb : BX g (.slice a n c) (.slice a' n' c') t w)
    (hk : ∀ k, k ≠ g → w'.heap[k]? = w.heap[k]?) : Reads E w' B A xs := by
  rcases h with h | ⟨b, off, h1, h2, h3⟩
  · exact .inl h
  · refine .inr ⟨b, off, h1, h2, fun i x hx q u hu => ?_⟩
    have hc := h3 i x hx q u hu
    have hne : b ≠ g := fun e => by
      subst e
      rw [cell_of_row _ _ _ _ _ _ hb] at hc
      have hm : u ∈ (#[Value.slice a n c, Value.slice a' n' c'] : Array Value) := Array.mem_of_getElem? hc
      have h9 := hE x u (List.mem_of_getElem? hu)
      simp at hm
      rcases hm with rfl | rfl
      · exact h9 _ _ _ rfl
      · exact h9 _ _ _ rfl
    have e := hk b hne
    unfold World.cell? at hc ⊢
    rw [e]
    exact hc
theorem nsI7 : ∀ x u, u ∈ EInt.enc x → ∀ a n c, u ≠ .slice a n c := fun x u h a n c e => by simp [EInt] at h; rw [h] at e; cases e
theorem nsE7 : ∀ x u, u ∈ EEd.enc x → ∀ a n c, u ≠ .slice a n c := fun x u h a n c e => by simp [EEd] at h; rcases h with h | h | h <;> · rw [h] at e; cases e
theorem grAt_set {w : World} {An : Option Addr} {cn : Nat} {Ae : Option Addr} {ce : Nat} {x : Gr} (h : GrAt w An cn Ae ce x) {g : Nat} {a a' : Option Addr} {n c n' c' : Nat} {t : TypeId} (hb : BX g (.slice a n c) (.slice a' n' c') t w) (y z : Value) : GrAt ((w.setCell ⟨g, 0, none⟩ y).setCell ⟨g, 1, none⟩ z) An cn Ae ce x := by
  have hk : ∀ k, k ≠ g → ((w.setCell ⟨g, 0, none⟩ y).setCell ⟨g, 1, none⟩ z).heap[k]? = w.heap[k]? := fun k hk => (heap_setCell_other _ _ _ _ (by show k ≠ g; exact hk)).trans (heap_setCell_other _ _ _ _ (by show k ≠ g; exact hk))
  have hz : ((w.setCell ⟨g, 0, none⟩ y).setCell ⟨g, 1, none⟩ z).heap.size = w.heap.size := by simp
  exact ⟨by rw [hz]; exact reads_box7 nsI7 h.ns hb hk, by rw [hz]; exact reads_box7 nsE7 h.es hb hk, h.cn, h.ce⟩
theorem missI (l : List Int) (n : Nat) (A : Option Addr) (c : Nat) (w : World) (hl : l.length ≤ 1000) (hn : n ≤ 1000) (hB : Ints w w.heap.size A l) (hs : Asc l) :
    Calls Tryd.prog 62 #[.slice A l.length c, .int .i64 (n : Int)] w fun e w' => (∃ X x, e = .returned (.slice X (mis l n).length x) ∧ Ints w' w'.heap.size X (mis l n)) ∧ Below w.heap.size w w' := by
  refine (missingG_any l n A c w hl hn hB hs).mono ?_
  rintro e w' ⟨v, rfl, ho, hb⟩
  obtain ⟨X, x, rfl, hr⟩ := OwnE.reads ho
  exact ⟨⟨X, x, rfl, hr⟩, hb⟩

set_option maxRecDepth 100000 in
set_option maxHeartbeats 4000000 in
theorem boundaryG_any : BndC 35 := by
  intro g p An cn Ae ce Pn pn Pe pe w hg hp
  have hS0 : SR w [(.slice An g.ns.length cn, .slice Ae g.es.length ce, 25), (.slice Pn p.ns.length pn, .slice Pe p.es.length pe, 27)] ((w.alloc (.cells #[.slice An g.ns.length cn, .slice Ae g.es.length ce] 25)).alloc (.cells #[.slice Pn p.ns.length pn, .slice Pe p.es.length pe] 27)) := SR.push (SR.push (SR.nil w) rfl _ _ _) (by simp) _ _ _
  have HV := Lib.hid (fun (u : World) (hu : Below w.heap.size w u) => validG_any g p An cn Ae ce Pn pn Pe pe u (hg.up hu) (hp.up hu))
  have HMI := Lib.hid (fun (h : Asc p.es ∧ g.es.length ≤ 1000) (u : World) (hu : Below w.heap.size w u) => missI p.es g.es.length Pe pe u hp.le h.2 (Reads.up hp.es hu) h.1)
  have HIN := Lib.hid (fun (h : ∀ x ∈ p.ns, 0 ≤ x) (l : List Int) (hl : l.length ≤ 1000) (hs : Asc l) X x (u : World) (hu : Below w.heap.size w u) (r : Ints u u.heap.size X l) => intersectG_any p.ns l Pn X pn x u hp.ln hl h (Reads.up hp.ns hu) r hs)
  have HGE := Lib.hid (fun (u : World) (hu : Below w.heap.size w u) => Reads.below hg.es hu)
  have HZ : Hid (partE g p = 0 → (Asc p.es ∧ g.es.length ≤ 1000) ∧ (∀ x ∈ p.ns, 0 ≤ x) ∧ (mis p.es g.es.length).length ≤ 80 ∧ bndL g p = andF p.ns (dis (endsOf g (mis p.es g.es.length) (mis p.es g.es.length).length)) p.ns.length) := Lib.hid fun h => by
    obtain ⟨hv, hk⟩ := part_zero.1 h
    obtain ⟨v1, v2, _⟩ := valid_zero hv
    exact ⟨⟨hk.ae, by omega⟩, fun x hx => (hk.rn x hx).1, Nat.le_trans (sel_le _ _) v2, (bnd_is hv hk).symm⟩
  have HI : Hid (bndR g p = if partE g p = 0 then bndL g p else []) := Lib.hid rfl
  have HZR : Hid (∀ x ∈ mis p.es g.es.length, 0 ≤ x ∧ x < g.es.length) := Lib.hid mis_rng
  have HPL := Lib.hid hp.ln
  have HS0 := Lib.hid hS0
  clear hS0 hg hp
  generalize bndR g p = R at *
  generalize partE g p = E at *
  generalize bndL g p = RB at *
  generalize mis p.es g.es.length = xs at *
  have HEL := Lib.hid (fun k => ends_len g xs k)
  have HES := Lib.hid (fun k => ends_succ g xs k)
  go_enter Tryd.func35, Tryd.ntmps35
  obtain ⟨c0, c1⟩ := HS0.out.cell (i := 0) rfl
  obtain ⟨c2, c3⟩ := HS0.out.cell (i := 1) rfl
  simp only [Nat.add_zero] at c0 c1
  go_wp2_with fail
  refine (HV.out _ HS0.out.1).mono ?_
  rintro e w1 ⟨rfl, hb1⟩
  have HS1 := Lib.hid (HS0.out.up hb1)
  clear hb1 HS0 HV c0 c1 c2 c3
  obtain ⟨c0, c1⟩ := HS1.out.cell (i := 0) rfl
  obtain ⟨c2, c3⟩ := HS1.out.cell (i := 1) rfl
  simp only [Nat.add_zero] at c0 c1
  by_cases h1 : E = 0
  case neg =>
    have HR := Lib.hid (show R = [] by rw [HI.out, if_neg h1])
    have t1 : ((E : Int) != 0) = true := by simp; omega
    clear h1
    go_wp2_with fail
    go_ret2
    exact ⟨⟨none, 0, by rw [HR.out]; rfl, by rw [HR.out]; exact .inl rfl, by rw [HR.out]; exact Nat.zero_le _⟩, HS1.out.1⟩
  obtain ⟨z1, z2, z3, z4⟩ := HZ.out h1
  have HR := Lib.hid (show R = andF p.ns (dis (endsOf g xs xs.length)) p.ns.length by rw [HI.out, if_pos h1]; exact z4)
  have HXL := Lib.hid z3
  have HMI2 := Lib.hid (HMI.out z1)
  have HIN2 := Lib.hid (HIN.out z2)
  have t1 : ((E : Int) != 0) = false := by simp; omega
  have HEE := Lib.hid h1
  clear h1 HI HZ z1 z2 z3 z4 HMI HIN
  go_wp2_with fail
  refine (HMI2.out _ HS1.out.1).mono ?_
  rintro e w2 ⟨⟨X0, x0, rfl, hr0⟩, hb2⟩
  have HS2 := Lib.hid (HS1.out.up hb2)
  have HXS := Lib.hid (fun (u : World) (hu : Below w2.heap.size w2 u) => Reads.up hr0 hu)
  have HB0 : Hid (w.heap.size + 2 ≤ w2.heap.size) := Lib.hid (heap_lt (HS2.out.2 1 _ rfl))
  clear hr0 hb2 HS1 HMI2 t1 c0 c1 c2 c3
  go_wp2_with fail
  go_loopw [7, 23] (fun v x wr => ∃ k : Nat, k ≤ xs.length ∧ x = .int .i64 (k : Int) ∧ OwnI wr w2.heap.size v (endsOf g xs k) ∧ Below w2.heap.size w2 wr) (fun _ x _ => xs.length - (intOf x).toNat)
  case atStart => exact ⟨0, Nat.zero_le _, rfl, OwnE.nil _ _ _, Below.refl _ _⟩
  case round =>
    obtain ⟨k, hk, rfl, hown, hbel⟩ := hrel
    have HW := Lib.hid hown
    have HBE := Lib.hid hbel
    have HS := Lib.hid (HS2.out.up hbel)
    have hl9 : (endsOf g xs k).length ≤ 1000 := by
      rw [HEL.out]
      have := HXL.out
      omega
    have HL9 := Lib.hid hl9
    by_cases hlt : k < xs.length
    · obtain ⟨ao, cap, rfl⟩ := OwnE.slice hown
      clear hown hl9
      obtain ⟨b, off, hBe, hb, hc⟩ := Ints.cells (HXS.out _ HBE.out) hlt
      have ck := hc k hlt
      have hx := HZR.out _ (getD_mem (d := (0 : Int)) hlt)
      obtain ⟨q, hq⟩ : ∃ q : Nat, xs.getD k 0 = (q : Int) := ⟨(xs.getD k 0).toNat, by omega⟩
      have HESK := Lib.hid (HES.out k)
      rw [hq] at ck hx HESK
      rw [Int.toNat_natCast] at HESK
      have hqk : q < g.es.length := by omega
      obtain ⟨b2, off2, hAe, hb2, hd⟩ := Eds.cells (HGE.out _ HS.out.1) hqk
      obtain ⟨d0, d1, d2⟩ := hd q hqk
      obtain ⟨c0, c1⟩ := HS.out.cell (i := 0) rfl
      simp only [Nat.add_zero] at c0 c1
      subst hBe hAe
      have i0 : (0 : Int) ≤ (k : Int) := by omega
      have i1 : (k : Int) < (xs.length : Int) := by omega
      have i2 : ((k : Int)).toNat = k := by omega
      have j0 : (0 : Int) ≤ (q : Int) := by omega
      have j1 : (q : Int) < (g.es.length : Int) := by omega
      have j2 : ((q : Int)).toNat = q := by omega
      have i3 : xs.length ≤ 80 := HXL.out
      have HLT := Lib.hid hlt
      have HM : Hid (xs.length - ((k : Int) + 1).toNat < xs.length - ((k : Int)).toNat) := Lib.hid (by omega)
      generalize g.es.getD q default = y at *
      obtain ⟨ty, fr, tt⟩ := y
      dsimp only at d0 d1 d2 HESK
      have HAP : Hid (endsOf g xs k ++ [fr, tt] = endsOf g xs (k + 1)) := Lib.hid HESK.out.symm
      generalize endsOf g xs k = rows at *
      have HSZ := Lib.hid hbel.size
      clear hc hd hx hq hlt hqk d0 HESK hbel
      go_wp2_with fail
      have HMM : Hid (∀ u, Below w2.heap.size wr.drew u → u.cell? ⟨w.heap.size, 1, none⟩ = some (.slice (some ⟨b2, off2, none⟩) g.es.length ce) → (fun u : World => u.cell? ⟨w.heap.size, 1, none⟩ = some (.slice (some ⟨b2, off2, none⟩) g.es.length ce) ∧ u.cell? ⟨b2, off2 + q * 3 + 1, none⟩ = some (.int .i64 fr) ∧ u.cell? ⟨b2, off2 + q * 3 + 2, none⟩ = some (.int .i64 tt)) u) := Lib.hid fun u hu hcell => ⟨hcell, (hu.cell (p := ⟨b2, off2 + q * 3 + 1, none⟩) (Nat.lt_of_lt_of_le hb2 (by have := HB0.out; show w.heap.size ≤ w2.heap.size; omega))).trans d1, (hu.cell (p := ⟨b2, off2 + q * 3 + 2, none⟩) (Nat.lt_of_lt_of_le hb2 (by have := HB0.out; show w.heap.size ≤ w2.heap.size; omega))).trans d2⟩
      have HSD := Lib.hid (HS.out.up (below_d wr))
      have HBED := Lib.hid HBE.out.drew
      have HWD : Hid (OwnI wr.drew w2.heap.size (.slice ao rows.length cap) rows) := Lib.hid HW.out
      have HSZD : Hid (w2.heap.size ≤ wr.drew.heap.size) := Lib.hid HSZ.out
      clear c0 c1 ck d1 d2 HS HW HSZ HBE
      refine wp_region_noPanic ?_
      refine wp_region_held_drew (S := (fun u : World => u.cell? ⟨w.heap.size, 1, none⟩ = some (.slice (some ⟨b2, off2, none⟩) g.es.length ce) ∧ u.cell? ⟨b2, off2 + q * 3 + 1, none⟩ = some (.int .i64 fr) ∧ u.cell? ⟨b2, off2 + q * 3 + 2, none⟩ = some (.int .i64 tt))) (by kernel_rfl) (HMM.out _ (Below.refl _ _) (HSD.out.cell (i := 0) rfl).2) (fun hHeld => ?_)
      generalize wr.drew = wd at *
      refine wpAnyH_take (i := 0) (v := ?_) (oper_at (r := _) rfl) (by kernel_rfl) (by kernel_rfl) (by kernel_rfl) (fun _ _ _ h => h) (Or.inl ⟨by rfl, ?_⟩) (by assumption) ?_
      rotate_left
      · intro w hSw; try dsimp only at hSw
        go_simp
        try with_reducible rfl
      try simp only [Act.put, List.setIfInBounds_toArray, List.set_cons_zero, List.set_cons_succ]
      refine wpAnyH_take (i := 1) (v := ?_) (oper_at (r := _) rfl) (by kernel_rfl) (by kernel_rfl) (by kernel_rfl) (fun _ _ _ h => h) (Or.inl ⟨by rfl, ?_⟩) (by assumption) ?_
      rotate_left
      · intro w hSw; try dsimp only at hSw
        go_simp
        try with_reducible rfl
      try simp only [Act.put, List.setIfInBounds_toArray, List.set_cons_zero, List.set_cons_succ]
      refine wpAnyH_take (i := 2) (v := ?_) (oper_at (r := _) rfl) (by kernel_rfl) (by kernel_rfl) (by kernel_rfl) (fun _ _ _ h => h) (Or.inl ⟨by rfl, ?_⟩) (by assumption) ?_
      rotate_left
      · intro w hSw; try dsimp only at hSw
        go_simp
        try with_reducible rfl
      try simp only [Act.put, List.setIfInBounds_toArray, List.set_cons_zero, List.set_cons_succ]
      refine wpAnyH_take (i := 3) (v := ?_) (oper_at (r := _) rfl) (by kernel_rfl) (by kernel_rfl) (by kernel_rfl) (fun _ _ _ h => h) (Or.inl ⟨by rfl, ?_⟩) (by assumption) ?_
      rotate_left
      · intro w hSw; try dsimp only at hSw
        go_simp
        try with_reducible rfl
      try simp only [Act.put, List.setIfInBounds_toArray, List.set_cons_zero, List.set_cons_succ]
      refine wpAnyH_take (i := 4) (v := ?_) (oper_at (r := _) rfl) (by kernel_rfl) (by kernel_rfl) (by kernel_rfl) (fun _ _ _ h => h) (Or.inl ⟨by rfl, ?_⟩) (by assumption) ?_
      rotate_left
      · intro w hSw; try dsimp only at hSw
        go_simp
        try with_reducible rfl
      try simp only [Act.put, List.setIfInBounds_toArray, List.set_cons_zero, List.set_cons_succ]
      refine wpAnyH_take (i := 5) (v := ?_) (oper_at (r := _) rfl) (by kernel_rfl) (by kernel_rfl) (by kernel_rfl) (fun _ _ _ h => h) (Or.inl ⟨by rfl, ?_⟩) (by assumption) ?_
      rotate_left
      · intro w hSw; try dsimp only at hSw
        go_simp
        try with_reducible rfl
      try simp only [Act.put, List.setIfInBounds_toArray, List.set_cons_zero, List.set_cons_succ]
      refine wpAnyH_take (i := 6) (v := ?_) (oper_at (r := _) rfl) (by kernel_rfl) (by kernel_rfl) (by kernel_rfl) (fun _ _ _ h => h) (Or.inl ⟨by rfl, ?_⟩) (by assumption) ?_
      rotate_left
      · intro w hSw; try dsimp only at hSw
        go_simp
        try with_reducible rfl
      try simp only [Act.put, List.setIfInBounds_toArray, List.set_cons_zero, List.set_cons_succ]
      refine wpAnyH_take (i := 7) (v := ?_) (oper_at (r := _) rfl) (by kernel_rfl) (by kernel_rfl) (by kernel_rfl) (fun _ _ _ h => h) (Or.inl ⟨by rfl, ?_⟩) (by assumption) ?_
      rotate_left
      · intro w hSw; try dsimp only at hSw
        go_simp
        try with_reducible rfl
      try simp only [Act.put, List.setIfInBounds_toArray, List.set_cons_zero, List.set_cons_succ]
      refine wpAnyH_take (i := 8) (v := ?_) (oper_at (r := _) rfl) (by kernel_rfl) (by kernel_rfl) (by kernel_rfl) (fun _ _ _ h => h) (Or.inl ⟨by rfl, ?_⟩) (by assumption) ?_
      rotate_left
      · intro w hSw; try dsimp only at hSw
        go_simp
        try with_reducible rfl
      try simp only [Act.put, List.setIfInBounds_toArray, List.set_cons_zero, List.set_cons_succ]
      refine wpAnyH_take (i := 9) (v := ?_) (oper_at (r := _) rfl) (by kernel_rfl) (by kernel_rfl) (by kernel_rfl) (fun _ _ _ h => h) (Or.inl ⟨by rfl, ?_⟩) (by assumption) ?_
      rotate_left
      · intro w hSw; try dsimp only at hSw
        go_simp
        try with_reducible rfl
      try simp only [Act.put, List.setIfInBounds_toArray, List.set_cons_zero, List.set_cons_succ]
      refine wpAnyH_take (i := 10) (v := ?_) (oper_at (r := _) rfl) (by kernel_rfl) (by kernel_rfl) (by kernel_rfl) (fun _ _ _ h => h) (Or.inl ⟨by rfl, ?_⟩) (by assumption) ?_
      rotate_left
      · intro w hSw; try dsimp only at hSw
        go_simp
        try with_reducible rfl
      try simp only [Act.put, List.setIfInBounds_toArray, List.set_cons_zero, List.set_cons_succ]
      refine wpAnyH_take (i := 11) (v := ?_) (oper_at (r := _) rfl) (by kernel_rfl) (by kernel_rfl) (by kernel_rfl) (fun _ _ _ h => h) (Or.inl ⟨by rfl, ?_⟩) (by assumption) ?_
      rotate_left
      · intro w hSw; try dsimp only at hSw
        go_simp
        try with_reducible rfl
      try simp only [Act.put, List.setIfInBounds_toArray, List.set_cons_zero, List.set_cons_succ]
      refine wpAnyH_take (i := 12) (v := ?_) (oper_at (r := _) rfl) (by kernel_rfl) (by kernel_rfl) (by kernel_rfl) (fun _ _ _ h => h) (Or.inl ⟨by rfl, ?_⟩) (by assumption) ?_
      rotate_left
      · intro w hSw; try dsimp only at hSw
        go_simp
        try with_reducible rfl
      try simp only [Act.put, List.setIfInBounds_toArray, List.set_cons_zero, List.set_cons_succ]
      refine wpAnyH_ready (rs := [13]) (by kernel_rfl) (by simp) ?_
      refine AllReadyH.cons (oper_at (r := _) rfl) (fun K hK => ?_) AllReadyH.nil
      have hba : Below wd.heap.size wd (wd.alloc (.cells #[.int .i64 fr, .int .i64 tt] 3)) := (Below.refl _ _).alloc (Nat.le_refl _) _
      have HBA := Lib.hid (hba.mono HSZD.out)
      have HSA := Lib.hid (HSD.out.up hba)
      have HWA := Lib.hid (HWD.out.alloc (.cells #[.int .i64 fr, .int .i64 tt] 3))
      have HRA := Lib.hid (two_cells (w := wd) (a := fr) (b := tt))
      have HSZA : Hid (w2.heap.size ≤ (wd.alloc (.cells #[.int .i64 fr, .int .i64 tt] 3)).heap.size) := Lib.hid (Nat.le_trans HSZD.out hba.size)
      clear hba
      go_simp
      refine hK.out _ _ (HMM.out _ HBA.out (HSA.out.cell (i := 0) rfl).2) (fun _ => ?_)
      clear hK K
      try simp only [Act.put, List.setIfInBounds_toArray, List.set_cons_zero, List.set_cons_succ]
      generalize wd.alloc (.cells #[.int .i64 fr, .int .i64 tt] 3) = wa at *
      generalize wd.heap.size = gz at *
      refine wpAnyH_ready (rs := [14]) (by kernel_rfl) (by simp) ?_
      refine AllReadyH.cons (oper_at (r := _) rfl) (fun K hK => ?_) AllReadyH.nil
      refine step_append_many (E := EInt) (by rfl) _ _ 22 3 (by rfl) Tryd.underlying22 infoInt rfl (by decide) (by decide) w2.heap.size (.slice ao rows.length cap) rows (by rfl) HWA.out (some ⟨gz, 0, none⟩) 2 2 wa.heap.size [fr, tt] (by rfl) rfl HRA.out (by have := HL9.out; omega) (by omega) HSZA.out ?_
      intro v5 w5 ho hgr hb5 _
      have HS5 := Lib.hid (SR.low HSA.out HB0.out hb5)
      have HW5 := Lib.hid (OwnE.cast HAP.out ho)
      have HBW5 := Lib.hid (HBA.out.trans hb5)
      have HBE5 := Lib.hid (HBED.out.trans HBW5.out)
      clear ho hgr hb5
      refine hK.out _ _ (HMM.out _ HBW5.out (HS5.out.cell (i := 0) rfl).2) (fun _ => ?_)
      clear hK K
      try simp only [Act.put, List.setIfInBounds_toArray, List.set_cons_zero, List.set_cons_succ]
      refine wpAnyH_take (i := 15) (v := ?_) (oper_at (r := _) rfl) (by kernel_rfl) (by kernel_rfl) (by kernel_rfl) (fun _ _ _ h => h) (Or.inl ⟨by rfl, ?_⟩) (by assumption) ?_
      rotate_left
      · intro w hSw; try dsimp only at hSw
        go_simp
        try with_reducible rfl
      try simp only [Act.put, List.setIfInBounds_toArray, List.set_cons_zero, List.set_cons_succ]
      refine wpAnyH_done (by kernel_rfl) ?_ _
      refine NoPanic.normal ?_
      go_wp2_with fail
      go_roundw
      case rel => exact ⟨k + 1, HLT.out, by go_num, HW5.out, HBE5.out⟩
      case measure => exact HM.out
    · have e : k = xs.length := by omega
      subst e
      clear hown hl9 hbel
      generalize hrw : endsOf g xs xs.length = rows at *
      clear hrw
      obtain ⟨X, x, rfl, hrd⟩ := OwnE.reads HW.out
      have HRD := Lib.hid (fun (u : World) (hu : Below wr.heap.size wr u) => distinctD_any rows X x u HL9.out (Reads.up hrd hu))
      have HDL := Lib.hid (Nat.le_trans (dis_len rows) HL9.out)
      have HDA := Lib.hid (dis_asc rows)
      clear hrd
      obtain ⟨c2, c3⟩ := HS.out.cell (i := 1) rfl
      generalize dis rows = ds at *
      go_wp2_with fail
      have HMM : Hid (∀ u, Below wr.drew.heap.size wr.drew u → (fun u : World => u.cell? ⟨w.heap.size + 1, 0, none⟩ = some (.slice Pn p.ns.length pn)) u) := Lib.hid fun u hu => cell_up hu c2
      have HSD := Lib.hid (HS.out.up (below_d wr))
      have WDR := Lib.hid (below_d wr)
      have WD0 := Lib.hid (Below.refl wr.drew.heap.size wr.drew)
      clear c2 c3 HS
      refine wp_region_noPanic ?_
      refine wp_region_held_drew (S := (fun u : World => u.cell? ⟨w.heap.size + 1, 0, none⟩ = some (.slice Pn p.ns.length pn))) (by kernel_rfl) (HMM.out _ WD0.out) (fun hHeld => ?_)
      generalize wr.drew = wd at *
      refine wpAnyH_take (i := 0) (v := ?_) (oper_at (r := _) rfl) (by kernel_rfl) (by kernel_rfl) (by kernel_rfl) (fun _ _ _ h => h) (Or.inl ⟨by rfl, ?_⟩) (by assumption) ?_
      rotate_left
      · intro w hSw; try dsimp only at hSw
        go_simp
        try with_reducible rfl
      try simp only [Act.put, List.setIfInBounds_toArray, List.set_cons_zero, List.set_cons_succ]
      refine wpAnyH_take (i := 1) (v := ?_) (oper_at (r := _) rfl) (by kernel_rfl) (by kernel_rfl) (by kernel_rfl) (fun _ _ _ h => h) (Or.inl ⟨by rfl, ?_⟩) (by assumption) ?_
      rotate_left
      · intro w hSw; try dsimp only at hSw
        go_simp
        try with_reducible rfl
      try simp only [Act.put, List.setIfInBounds_toArray, List.set_cons_zero, List.set_cons_succ]
      refine wpAnyH_take (i := 2) (v := ?_) (oper_at (r := _) rfl) (by kernel_rfl) (by kernel_rfl) (by kernel_rfl) (fun _ _ _ h => h) (Or.inl ⟨by rfl, ?_⟩) (by assumption) ?_
      rotate_left
      · intro w hSw; try dsimp only at hSw
        go_simp
        try with_reducible rfl
      try simp only [Act.put, List.setIfInBounds_toArray, List.set_cons_zero, List.set_cons_succ]
      refine wpAnyH_ready (rs := [3]) (by kernel_rfl) (by simp) ?_
      refine AllReadyH.cons (oper_at (r := _) rfl) (fun K hK => ?_) AllReadyH.nil
      go_simp
      refine (HRD.out _ WDR.out).mono ?_
      rintro e w3 ⟨v3, rfl, ho3, hb3⟩
      obtain ⟨X3, x3, rfl, hr3⟩ := OwnE.reads ho3
      have HR3 := Lib.hid hr3
      have HS3 := Lib.hid (HSD.out.up hb3)
      have WD3 := Lib.hid hb3
      clear ho3 hr3 hb3 HSD
      go_wp2_with fail
      refine hK.out _ _ (HMM.out _ WD3.out) (fun _ => ?_)
      clear hK K
      try simp only [Act.put, List.setIfInBounds_toArray, List.set_cons_zero, List.set_cons_succ]
      refine wpAnyH_ready (rs := [4]) (by kernel_rfl) (by simp) ?_
      refine AllReadyH.cons (oper_at (r := _) rfl) (fun K hK => ?_) AllReadyH.nil
      go_simp
      refine (HIN2.out _ HDL.out HDA.out X3 x3 _ HS3.out.1 HR3.out).mono ?_
      rintro e w4 ⟨v4, rfl, ho4, hb4⟩
      have HO4 := Lib.hid ho4
      have WD4 := Lib.hid (WD3.out.trans (hb4.mono WD3.out.size))
      have HS4 := Lib.hid (HS3.out.up hb4)
      have HQ : Hid ((andF p.ns ds p.ns.length).length ≤ 1000) := Lib.hid (Nat.le_trans (andF_le _ _ _) HPL.out)
      clear ho4 hb4
      generalize andF p.ns ds p.ns.length = rr at *
      obtain ⟨X4, x4, rfl, hr4⟩ := OwnE.reads HO4.out
      have HR4 := Lib.hid hr4
      clear hr4
      go_wp2_with fail
      refine hK.out _ _ (HMM.out _ WD4.out) (fun _ => ?_)
      clear hK K
      try simp only [Act.put, List.setIfInBounds_toArray, List.set_cons_zero, List.set_cons_succ]
      refine wpAnyH_take (i := 5) (v := ?_) (oper_at (r := _) rfl) (by kernel_rfl) (by kernel_rfl) (by kernel_rfl) (fun _ _ _ h => h) (Or.inl ⟨by rfl, ?_⟩) (by assumption) ?_
      rotate_left
      · intro w hSw; try dsimp only at hSw
        go_simp
        try with_reducible rfl
      try simp only [Act.put, List.setIfInBounds_toArray, List.set_cons_zero, List.set_cons_succ]
      refine wpAnyH_take (i := 6) (v := ?_) (oper_at (r := _) rfl) (by kernel_rfl) (by kernel_rfl) (by kernel_rfl) (fun _ _ _ h => h) (Or.inl ⟨by rfl, ?_⟩) (by assumption) ?_
      rotate_left
      · intro w hSw; try dsimp only at hSw
        go_simp
        try with_reducible rfl
      try simp only [Act.put, List.setIfInBounds_toArray, List.set_cons_zero, List.set_cons_succ]
      refine wpAnyH_done (by kernel_rfl) ?_ _
      refine NoPanic.normal ?_
      go_wp2_with fail
      go_ret2
      exact ⟨⟨X4, x4, by rw [HR.out, HEE.out]; rfl, by rw [HR.out]; exact HR4.out, by rw [HR.out]; have := HQ.out; unfold maxLen; omega⟩, HS4.out.1⟩

end Go.Proofs.YthnhacncnhknnaaDoor

/-
  All parts, as the program lists them: by the bits of two numbers, then sorted by its own comparison; and that this is the list of all parts in order.
-/
namespace Go.Proofs.YthnhacncnhknnaaDoor

def cmpI (a b : Int) : Int := if a < b then -1 else if b < a then 1 else 0
/-- numbers of two lists, one after another -/
def cmpS : List Int → List Int → Int
  | x :: r, y :: s => if cmpI x y ≠ 0 then cmpI x y else cmpS r s
  | [], [] => 0
  | [], _ :: _ => -1
  | _ :: _, [] => 1
/-- the first one that is not zero -/
def fst0 : List Int → Int
  | [] => 0
  | x :: r => if x ≠ 0 then x else fst0 r
def cmpV (p q : Mo) : List Int := [cmpI p.ns.length q.ns.length, cmpS p.ns q.ns, cmpI p.es.length q.es.length, cmpS p.es q.es]
def cmpG (p q : Mo) : Int := fst0 (cmpV p q)
theorem cmpI_sgn (a b : Int) : (cmpI a b < 0 ↔ a < b) ∧ (cmpI a b = 0 ↔ a = b) := by
  unfold cmpI
  constructor <;> constructor <;> intro h
  · split at h
    · assumption
    · split at h <;> omega
  · rw [if_pos h]; omega
  · split at h
    · omega
    · split at h <;> omega
  · subst h; rw [if_neg (by omega), if_neg (by omega)]
theorem cmpS_sgn : ∀ {a b : List Int}, a.length = b.length → (cmpS a b < 0 ↔ fstD a b < 0) ∧ (cmpS a b = 0 ↔ fstD a b = 0)
  | [], [], _ => ⟨Iff.rfl, Iff.rfl⟩
  | [], _ :: _, h => by simp at h
  | _ :: _, [], h => by simp at h
  | x :: r, y :: s, h => by
    obtain ⟨c1, c2⟩ := cmpI_sgn x y
    have ih := cmpS_sgn (a := r) (b := s) (by simpa using h)
    simp only [cmpS, fstD]
    by_cases e : x = y
    · rw [if_neg (fun hn => hn (c2.2 e)), if_neg (fun hn => hn e)]; exact ih
    · rw [if_pos (fun hn => e (c2.1 hn)), if_pos e]
      exact ⟨c1.trans (by omega), c2.trans (by omega)⟩
theorem fst0_two (x y : Int) : fst0 [x, y] = if x ≠ 0 then x else y := by
  simp only [fst0]
  by_cases h : y = 0 <;> simp [h]
theorem cmp_two (a b : List Int) : (fst0 [cmpI a.length b.length, cmpS a b] < 0 ↔ cmpL a b < 0) ∧ (fst0 [cmpI a.length b.length, cmpS a b] = 0 ↔ cmpL a b = 0) := by
  obtain ⟨c1, c2⟩ := cmpI_sgn a.length b.length
  rw [fst0_two]
  by_cases e : a.length = b.length
  · have h1 : cmpL a b = fstD a b := if_neg (fun hn => hn e)
    have h2 : ¬ cmpI a.length b.length ≠ 0 := fun hn => hn (c2.2 (by omega))
    rw [if_neg h2, h1]
    exact cmpS_sgn e
  · have h1 : cmpL a b = (a.length : Int) - b.length := if_pos e
    have h2 : cmpI a.length b.length ≠ 0 := fun hn => e (by have := c2.1 hn; omega)
    rw [if_pos h2, h1]
    exact ⟨c1.trans (by omega), c2.trans (by omega)⟩
theorem fst0_app (a b c d : Int) : fst0 [a, b, c, d] = if fst0 [a, b] ≠ 0 then fst0 [a, b] else fst0 [c, d] := by
  simp only [fst0]
  by_cases ha : a = 0
  · by_cases hb : b = 0
    · simp [ha, hb]
    · simp [ha, hb]
  · simp [ha]
theorem cmpG_sgn (p q : Mo) : cmpG p q < 0 ↔ cmpP p q < 0 := by
  unfold cmpG cmpV cmpP
  rw [fst0_app]
  obtain ⟨a1, a2⟩ := cmp_two p.ns q.ns
  obtain ⟨b1, b2⟩ := cmp_two p.es q.es
  by_cases z : cmpL p.ns q.ns = 0
  · rw [if_neg (fun hn => hn (a2.2 z)), if_neg (fun hn => hn z)]; exact b1
  · rw [if_pos (fun hn => z (a2.1 hn)), if_pos z]; exact a1
theorem cmpP_nlt {p q r : Mo} (h : ¬ cmpP p q < 0) (k : ¬ cmpP q r < 0) : ¬ cmpP p r < 0 := fun h3 => by
  have t1 := cmpP_turn p q
  have t2 := cmpP_turn q r
  by_cases z1 : cmpP p q = 0
  · rw [cmpP_zero z1] at h3; exact k h3
  · by_cases z2 : cmpP q r = 0
    · rw [← cmpP_zero z2] at h3; exact h h3
    · have := cmpP_trans (show cmpP r q < 0 by omega) (show cmpP q p < 0 by omega)
      have t3 := cmpP_turn p r
      omega
/-- parts that come by number are compared as a sort asks -/
theorem cmp_swo {ι : Type} (f : ι → Mo) : Sort.SWO (fun i j => decide (cmpG (f i) (f j) < 0)) where
  irrefl x := by rw [decide_eq_false_iff_not, cmpG_sgn, cmpP_self]; omega
  trans x y z h1 h2 := by
    rw [decide_eq_true_iff, cmpG_sgn] at *
    exact cmpP_trans h1 h2
  ntrans x y z h1 h2 := by
    rw [decide_eq_false_iff_not, cmpG_sgn] at *
    exact cmpP_nlt h1 h2

/-! all parts by the bits of two numbers -/
def bP (g : Gr) (a b : Nat) : Mo := ⟨sel (fun i => a.testBit i) g.ns.length, sel (fun i => b.testBit i) g.es.length⟩
def inA (g : Gr) (a k : Nat) : List Mo := coll (fun b => if rightE g (bP g a b) = 0 then [bP g a b] else []) k
def outA (g : Gr) (k : Nat) : List Mo := coll (fun a => inA g a (2 ^ g.es.length)) k
theorem inA_mem {g : Gr} {a k : Nat} {p : Mo} : p ∈ inA g a k ↔ ∃ b, b < k ∧ rightE g (bP g a b) = 0 ∧ p = bP g a b := by
  unfold inA
  rw [coll_mem]
  constructor
  · rintro ⟨b, hb, h⟩
    by_cases hr : rightE g (bP g a b) = 0
    · rw [if_pos hr, List.mem_singleton] at h; exact ⟨b, hb, hr, h⟩
    · rw [if_neg hr] at h; simp at h
  · rintro ⟨b, hb, hr, rfl⟩; exact ⟨b, hb, by rw [if_pos hr]; simp⟩
theorem outA_mem {g : Gr} {p : Mo} : p ∈ outA g (2 ^ g.ns.length) ↔ PartOk g p := by
  unfold outA
  rw [coll_mem]
  constructor
  · rintro ⟨a, _, h⟩
    obtain ⟨b, _, hr, rfl⟩ := inA_mem.1 h
    exact right_zero.1 hr
  · intro h
    obtain ⟨a, ha, h1⟩ := num_of (inB p.ns) g.ns.length
    obtain ⟨b, hb, h2⟩ := num_of (inB p.es) g.es.length
    have e : p = bP g a b := by
      have e1 : p.ns = sel (fun i => a.testBit i) g.ns.length := asc_eq_sel h.an h.rn fun i hi => by rw [h1 i hi, inB_iff]
      have e2 : p.es = sel (fun i => b.testBit i) g.es.length := asc_eq_sel h.ae h.re fun i hi => by rw [h2 i hi, inB_iff]
      cases p
      simp only at e1 e2
      unfold bP
      rw [← e1, ← e2]
    exact ⟨a, ha, inA_mem.2 ⟨b, hb, by rw [← e]; exact right_zero.2 h, e⟩⟩
theorem bits_inj {n a b : Nat} (ha : a < 2 ^ n) (hb : b < 2 ^ n) (h : sel (fun i => a.testBit i) n = sel (fun i => b.testBit i) n) : a = b := by
  apply Nat.eq_of_testBit_eq
  intro i
  by_cases hi : i < n
  · rw [Bool.eq_iff_iff]
    have x := sel_has (f := fun i => a.testBit i) (n := n) (i := i)
    have y := sel_has (f := fun i => b.testBit i) (n := n) (i := i)
    rw [h] at x
    exact ⟨fun z => (y.1 (x.2 ⟨hi, z⟩)).2, fun z => (x.1 (y.2 ⟨hi, z⟩)).2⟩
  · have hm : 2 ^ n ≤ 2 ^ i := Nat.pow_le_pow_right (by omega) (by omega)
    rw [Nat.testBit_lt_two_pow (by omega), Nat.testBit_lt_two_pow (by omega)]
theorem inA_nodup {g : Gr} {a k : Nat} (hk : k ≤ 2 ^ g.es.length) : (inA g a k).Nodup := by
  induction k with
  | zero => exact List.nodup_nil
  | succ k ih =>
    show (inA g a k ++ if rightE g (bP g a k) = 0 then [bP g a k] else []).Nodup
    rw [List.nodup_append]
    refine ⟨ih (by omega), by split <;> simp, fun x hx y hy => ?_⟩
    obtain ⟨b, hb, _, rfl⟩ := inA_mem.1 hx
    split at hy
    · rw [List.mem_singleton] at hy
      subst hy
      intro e
      have := bits_inj (by omega) (by omega) (congrArg Mo.es e)
      omega
    · simp at hy
theorem outA_nodup {g : Gr} {k : Nat} (hk : k ≤ 2 ^ g.ns.length) : (outA g k).Nodup := by
  induction k with
  | zero => exact List.nodup_nil
  | succ k ih =>
    show (outA g k ++ _).Nodup
    rw [List.nodup_append]
    refine ⟨ih (by omega), inA_nodup (Nat.le_refl _), fun x hx y hy => ?_⟩
    unfold outA at hx
    rw [coll_mem] at hx
    obtain ⟨a, ha, hx⟩ := hx
    obtain ⟨b, _, _, rfl⟩ := inA_mem.1 hx
    obtain ⟨c, _, _, rfl⟩ := inA_mem.1 hy
    intro e
    have := bits_inj (by omega) (by omega) (congrArg Mo.ns e)
    omega
theorem inA_len (g : Gr) (a k : Nat) : (inA g a k).length ≤ k := coll_le (fun i => by split <;> simp) k
theorem outA_len (g : Gr) (k : Nat) : (outA g k).length ≤ k * 2 ^ g.es.length := by
  induction k with
  | zero => simp [outA, coll]
  | succ k ih =>
    show (outA g k ++ inA g k (2 ^ g.es.length)).length ≤ _
    have := inA_len g k (2 ^ g.es.length)
    rw [List.length_append, Nat.succ_mul]
    omega
/-- sorted, they are all parts in order -/
theorem all_sorted {g : Gr} {l : List Mo} (hp : l.Perm (outA g (2 ^ g.ns.length))) (hs : ∀ i j, i < j → j < l.length → ¬ cmpG (l.getD j default) (l.getD i default) < 0) : l = pAll g := by
  refine pAll_is ?_ fun p => hp.mem_iff.trans outA_mem
  have hn : l.Nodup := hp.nodup_iff.2 (outA_nodup (Nat.le_refl _))
  unfold SrtP
  rw [List.pairwise_iff_getElem]
  intro i j hi hj hij
  have h := hs i j hij hj
  rw [cmpG_sgn, List.getD_eq_getElem?_getD, List.getD_eq_getElem?_getD, List.getElem?_eq_getElem hi, List.getElem?_eq_getElem hj] at h
  simp only [Option.getD_some] at h
  have t := cmpP_turn l[i] l[j]
  have hne : cmpP l[i] l[j] ≠ 0 := fun e => by
    have e2 := cmpP_zero e
    exact absurd e2 (List.pairwise_iff_getElem.1 hn i j hi hj hij)
  omega

end Go.Proofs.YthnhacncnhknnaaDoor

/-
  The program's comparison of parts; the bits of a number. Printed by mkg4.py.
-/
namespace Go.Proofs.YthnhacncnhknnaaDoor
open Go.RowKit Go.Shelf

theorem cmpI_any (a b : Int) (w : World) : Calls Tryd.prog 97 #[.int .i64 a, .int .i64 b] w fun e w' => e = .returned (.int .i64 (cmpI a b)) ∧ w = w' := by
  have H1 : Hid (a < b → cmpI a b = -1) := Lib.hid fun h => if_pos h
  have H2 : Hid (b < a → cmpI a b = 1) := Lib.hid fun h => by unfold cmpI; rw [if_neg (by omega), if_pos h]
  have H3 : Hid (a = b → cmpI a b = 0) := Lib.hid fun h => by unfold cmpI; rw [if_neg (by omega), if_neg (by omega)]
  generalize cmpI a b = R at *
  have ta : (a != a) = false := by simp
  have tb : (b != b) = false := by simp
  by_cases h : a < b
  · have HE := Lib.hid (H1.out h)
    go_enter Tryd.func97, Tryd.ntmps97
    go_wp2
    go_ret
    exact ⟨ret_int HE.out.symm, rfl⟩
  · by_cases h2 : b < a
    · have HE := Lib.hid (H2.out h2)
      go_enter Tryd.func97, Tryd.ntmps97
      go_wp2
      go_ret
      exact ⟨ret_int HE.out.symm, rfl⟩
    · have HE := Lib.hid (H3.out (by omega))
      go_enter Tryd.func97, Tryd.ntmps97
      go_wp2
      go_ret
      exact ⟨ret_int HE.out.symm, rfl⟩

theorem cmpS_drop {a b : List Int} {k : Nat} (ha : k < a.length) (hb : k < b.length) : cmpS (a.drop k) (b.drop k) = if cmpI (a.getD k 0) (b.getD k 0) ≠ 0 then cmpI (a.getD k 0) (b.getD k 0) else cmpS (a.drop (k + 1)) (b.drop (k + 1)) := by
  rw [List.drop_eq_getElem_cons ha, List.drop_eq_getElem_cons hb, List.getD_eq_getElem?_getD, List.getD_eq_getElem?_getD, List.getElem?_eq_getElem ha, List.getElem?_eq_getElem hb]
  rfl
theorem cmpS_long {a b : List Int} {k : Nat} (ha : k < a.length) (hb : b.length ≤ k) : cmpS (a.drop k) (b.drop k) = 1 := by
  rw [List.drop_eq_getElem_cons ha, List.drop_of_length_le hb]
  rfl
theorem cmpS_short {a b : List Int} {k : Nat} (ha : a.length ≤ k) (hb : k < b.length) : cmpS (a.drop k) (b.drop k) = -1 := by
  rw [List.drop_eq_getElem_cons hb, List.drop_of_length_le ha]
  rfl
theorem cmpS_both {a b : List Int} {k : Nat} (ha : a.length ≤ k) (hb : b.length ≤ k) : cmpS (a.drop k) (b.drop k) = 0 := by
  rw [List.drop_of_length_le ha, List.drop_of_length_le hb]
  rfl
set_option maxHeartbeats 1000000 in
theorem cmpS_any (a b : List Int) (A A2 : Option Addr) (B B2 c c2 : Nat) (w : World) (la : a.length ≤ maxLen) (_ : b.length ≤ maxLen) (hA : Ints w B A a) (hB : Ints w B2 A2 b) :
    Calls Tryd.prog 98 #[.slice A a.length c, .slice A2 b.length c2] w fun e w' => e = .returned (.int .i64 (cmpS a b)) ∧ w = w' := by
  unfold maxLen at la
  have HA := Lib.hid hA
  have HB := Lib.hid hB
  have HC := Lib.hid (fun x y u => cmpI_any x y u)
  have H0 : Hid (cmpS a b = cmpS (a.drop 0) (b.drop 0)) := Lib.hid rfl
  have HD := Lib.hid (fun k (ha : k < a.length) (hb : k < b.length) => cmpS_drop ha hb)
  have HL := Lib.hid (fun k (ha : k < a.length) (hb : b.length ≤ k) => cmpS_long ha hb)
  have HS := Lib.hid (fun k (ha : a.length ≤ k) (hb : k < b.length) => cmpS_short ha hb)
  have HE := Lib.hid (fun k (ha : a.length ≤ k) (hb : b.length ≤ k) => cmpS_both ha hb)
  clear hA hB
  obtain ⟨F, hF⟩ : ∃ F : Nat → Int, F = fun k => cmpS (a.drop k) (b.drop k) := ⟨_, rfl⟩
  have HF : Hid (∀ k, cmpS (a.drop k) (b.drop k) = F k) := Lib.hid fun k => by rw [hF]
  clear hF
  generalize cmpS a b = R at *
  go_enter Tryd.func98, Tryd.ntmps98
  go_wp2_with fail
  go_loop [11] (fun x => ∃ k : Nat, k ≤ a.length ∧ k ≤ b.length ∧ x = .int .i64 (k : Int) ∧ R = F k) (fun x => a.length - (intOf x).toNat)
  case atStart => exact ⟨0, Nat.zero_le _, Nat.zero_le _, rfl, H0.out.trans (HF.out 0)⟩
  case round =>
    obtain ⟨k, hk, hkb, rfl, hr⟩ := hrel
    have HR := Lib.hid hr
    clear hr
    by_cases hlt : k < a.length
    · obtain ⟨b1, off, rfl, hb1, hc⟩ := Ints.cells HA.out hlt
      have ck := hc k hlt
      have i0 : (0 : Int) ≤ (k : Int) := by omega
      have i1 : (k : Int) < (a.length : Int) := by omega
      have i2 : ((k : Int)).toNat = k := by omega
      clear hc
      by_cases hltb : k < b.length
      · obtain ⟨b2, off2, rfl, hb2, hd⟩ := Ints.cells HB.out hltb
        have dk := hd k hltb
        have j1 : (k : Int) < (b.length : Int) := by omega
        have HX := Lib.hid (show R = if cmpI (a.getD k 0) (b.getD k 0) ≠ 0 then cmpI (a.getD k 0) (b.getD k 0) else F (k + 1) by rw [HR.out, ← HF.out k, HD.out k hlt hltb, HF.out (k + 1)])
        have HM : Hid (a.length - ((k : Int) + 1).toNat < a.length - ((k : Int)).toNat) := Lib.hid (by omega)
        have HLT := Lib.hid (And.intro hlt hltb)
        have HCC := Lib.hid (HC.out (a.getD k 0) (b.getD k 0) w)
        clear hd
        generalize cmpI (a.getD k 0) (b.getD k 0) = z at *
        generalize a.getD k 0 = x at *
        generalize b.getD k 0 = y at *
        by_cases hz : z = 0
        · have HR2 := Lib.hid (show R = F (k + 1) by rw [HX.out, if_neg (fun hn => hn hz)])
          have t1 : (z != 0) = false := by simp [hz]
          clear hz
          go_wp2_with fail
          refine HCC.out.mono ?_
          rintro e w1 ⟨rfl, rfl⟩
          go_wp2_with fail
          go_round
          case rel => exact ⟨k + 1, HLT.out.1, HLT.out.2, by go_num, HR2.out⟩
          case measure => exact HM.out
        · have HR2 := Lib.hid (show R = z by rw [HX.out, if_pos hz])
          have t1 : (z != 0) = true := by simpa using hz
          clear hz
          go_wp2_with fail
          refine HCC.out.mono ?_
          rintro e w1 ⟨rfl, rfl⟩
          go_wp2_with fail
          go_ret
          exact ⟨ret_int HR2.out.symm, rfl⟩
      · have HR2 := Lib.hid (show R = 1 by rw [HR.out, ← HF.out k]; exact HL.out k hlt (by omega))
        have e : k = b.length := by omega
        subst e
        go_wp2_with fail
        go_ret
        exact ⟨ret_int HR2.out.symm, rfl⟩
    · have e : k = a.length := by omega
      subst e
      by_cases hltb : a.length < b.length
      · have HR2 := Lib.hid (show R = -1 by rw [HR.out, ← HF.out a.length]; exact HS.out _ (Nat.le_refl _) hltb)
        go_wp2_with fail
        go_ret
        exact ⟨ret_int HR2.out.symm, rfl⟩
      · have HR2 := Lib.hid (show R = 0 by rw [HR.out, ← HF.out a.length]; exact HE.out _ (Nat.le_refl _) (by omega))
        have t1 : ¬ a.length < b.length := hltb
        go_wp2_with fail
        go_ret
        exact ⟨ret_int HR2.out.symm, rfl⟩

theorem fst0_drop {xs : List Int} {k : Nat} (h : k < xs.length) : fst0 (xs.drop k) = if xs.getD k 0 ≠ 0 then xs.getD k 0 else fst0 (xs.drop (k + 1)) := by
  rw [List.drop_eq_getElem_cons h, List.getD_eq_getElem?_getD, List.getElem?_eq_getElem h]
  rfl
theorem fst0_end {xs : List Int} {k : Nat} (h : xs.length ≤ k) : fst0 (xs.drop k) = 0 := by rw [List.drop_of_length_le h]; rfl
set_option maxHeartbeats 1000000 in
theorem or_any (xs : List Int) (A : Option Addr) (B c : Nat) (w : World) (hl : xs.length ≤ maxLen) (hA : Ints w B A xs) :
    Calls Tryd.prog 96 #[.slice A xs.length c] w fun e w' => e = .returned (.int .i64 (fst0 xs)) ∧ w = w' := by
  unfold maxLen at hl
  have HA := Lib.hid hA
  have H0 : Hid (fst0 xs = fst0 (xs.drop 0)) := Lib.hid rfl
  have HD := Lib.hid (fun k (h : k < xs.length) => fst0_drop h)
  have HE := Lib.hid (fun k (h : xs.length ≤ k) => fst0_end h)
  clear hA
  obtain ⟨F, hF⟩ : ∃ F : Nat → Int, F = fun k => fst0 (xs.drop k) := ⟨_, rfl⟩
  have HF : Hid (∀ k, fst0 (xs.drop k) = F k) := Lib.hid fun k => by rw [hF]
  clear hF
  generalize fst0 xs = R at *
  go_enter Tryd.func96, Tryd.ntmps96
  go_wp2_with fail
  go_loop [8] (fun x => ∃ k : Nat, k ≤ xs.length ∧ x = .int .i64 (k : Int) ∧ R = F k) (fun x => xs.length - (intOf x).toNat)
  case atStart => exact ⟨0, Nat.zero_le _, rfl, H0.out.trans (HF.out 0)⟩
  case round =>
    obtain ⟨k, hk, rfl, hr⟩ := hrel
    have HR := Lib.hid hr
    clear hr
    by_cases hlt : k < xs.length
    · obtain ⟨b1, off, rfl, hb1, hc⟩ := Ints.cells HA.out hlt
      have ck := hc k hlt
      have i0 : (0 : Int) ≤ (k : Int) := by omega
      have i1 : (k : Int) < (xs.length : Int) := by omega
      have i2 : ((k : Int)).toNat = k := by omega
      have HX := Lib.hid (show R = if xs.getD k 0 ≠ 0 then xs.getD k 0 else F (k + 1) by rw [HR.out, ← HF.out k, HD.out k hlt, HF.out (k + 1)])
      have HM : Hid (xs.length - ((k : Int) + 1).toNat < xs.length - ((k : Int)).toNat) := Lib.hid (by omega)
      have HLT := Lib.hid hlt
      clear hc
      generalize xs.getD k 0 = z at *
      by_cases hz : z = 0
      · have HR2 := Lib.hid (show R = F (k + 1) by rw [HX.out, if_neg (fun hn => hn hz)])
        have t1 : (z != 0) = false := by simp [hz]
        clear hz
        go_wp2_with fail
        go_round
        case rel => exact ⟨k + 1, HLT.out, by go_num, HR2.out⟩
        case measure => exact HM.out
      · have HR2 := Lib.hid (show R = z by rw [HX.out, if_pos hz])
        have t1 : (z != 0) = true := by simpa using hz
        clear hz
        go_wp2_with fail
        go_ret
        exact ⟨ret_int HR2.out.symm, rfl⟩
    · have HR2 := Lib.hid (show R = 0 by rw [HR.out, ← HF.out k]; exact HE.out _ (by omega))
      go_wp2_with fail
      go_ret
      exact ⟨ret_int HR2.out.symm, rfl⟩

/-- what a call does that makes blocks and draws, and no more -/
def Grew (w w' : World) : Prop := ∃ k os, w' = Sort.grow (w.drewN k) os
theorem Grew.below {w w' : World} (h : Grew w w') : Below w.heap.size w w' := by
  obtain ⟨k, os, rfl⟩ := h
  exact ⟨rfl, rfl, rfl, by simp, fun i hi => Sort.heap_grow_old _ _ (by simpa using hi)⟩
set_option maxRecDepth 100000 in
set_option maxHeartbeats 4000000 in
theorem compareG_any (p q : Mo) (Pn : Option Addr) (pn : Nat) (Pe : Option Addr) (pe : Nat) (Qn : Option Addr) (qn : Nat) (Qe : Option Addr) (qe : Nat) (w : World) (hp : PtAt w Pn Pe p) (hq : PtAt w Qn Qe q) :
    Calls Tryd.prog 71 #[gval Pn p.ns.length pn Pe p.es.length pe, gval Qn q.ns.length qn Qe q.es.length qe] w fun e w' => e = .returned (.int .i64 (cmpG p q)) ∧ Grew w w' := by
  have hS0 : SR w _ ((w.alloc (.cells #[.slice Pn p.ns.length pn, .slice Pe p.es.length pe] 27)).alloc (.cells #[.slice Qn q.ns.length qn, .slice Qe q.es.length qe] 27)) := SR.push (SR.push (SR.nil w) rfl _ _ _) (by simp) _ _ _
  have hgr : ((w.alloc (.cells #[.slice Pn p.ns.length pn, .slice Pe p.es.length pe] 27)).alloc (.cells #[.slice Qn q.ns.length qn, .slice Qe q.es.length qe] 27)).drew = Sort.grow (w.drewN 1) #[.cells #[.slice Pn p.ns.length pn, .slice Pe p.es.length pe] 27, .cells #[.slice Qn q.ns.length qn, .slice Qe q.es.length qe] 27] := by
    rw [Sort.alloc_eq_grow, Sort.alloc_eq_grow, Sort.grow_grow]; rfl
  have HC1 := Lib.hid (fun u => cmpI_any (p.ns.length : Int) (q.ns.length : Int) u)
  have HC3 := Lib.hid (fun u => cmpI_any (p.es.length : Int) (q.es.length : Int) u)
  have HC2 := Lib.hid (fun (u : World) (hu : Below w.heap.size w u) => cmpS_any p.ns q.ns Pn Qn u.heap.size u.heap.size pn qn u (by have := hp.ln; unfold maxLen; omega) (by have := hq.ln; unfold maxLen; omega) (Reads.up hp.ns hu) (Reads.up hq.ns hu))
  have HC4 := Lib.hid (fun (u : World) (hu : Below w.heap.size w u) => cmpS_any p.es q.es Pe Qe u.heap.size u.heap.size pe qe u (by have := hp.le; unfold maxLen; omega) (by have := hq.le; unfold maxLen; omega) (Reads.up hp.es hu) (Reads.up hq.es hu))
  have HX : Hid (cmpG p q = fst0 [cmpI p.ns.length q.ns.length, cmpS p.ns q.ns, cmpI p.es.length q.es.length, cmpS p.es q.es]) := Lib.hid rfl
  have HGR := Lib.hid hgr
  have HS0 := Lib.hid hS0
  clear hp hq hS0 hgr
  generalize cmpG p q = R at *
  generalize cmpI p.ns.length q.ns.length = z1 at *
  generalize cmpI p.es.length q.es.length = z3 at *
  generalize cmpS p.ns q.ns = z2 at *
  generalize cmpS p.es q.es = z4 at *
  have HOR := Lib.hid (fun (u : World) (g k : Nat) (h : Ints u u.heap.size (some ⟨g, 0, none⟩) [z1, z2, z3, z4]) => or_any [z1, z2, z3, z4] (some ⟨g, 0, none⟩) u.heap.size k u (by unfold maxLen; simp) h)
  go_enter Tryd.func71, Tryd.ntmps71
  go_wp2_with fail
  obtain ⟨c0, c1⟩ := HS0.out.cell (i := 0) rfl
  obtain ⟨c2, c3⟩ := HS0.out.cell (i := 1) rfl
  simp only [Nat.add_zero] at c0 c1
  have HBD := Lib.hid (HS0.out.1.drew)
  have HSS : Hid ((fun u : World => u.cell? ⟨w.heap.size, 0, none⟩ = some (.slice Pn p.ns.length pn) ∧ u.cell? ⟨w.heap.size, 1, none⟩ = some (.slice Pe p.es.length pe) ∧ u.cell? ⟨w.heap.size + 1, 0, none⟩ = some (.slice Qn q.ns.length qn) ∧ u.cell? ⟨w.heap.size + 1, 1, none⟩ = some (.slice Qe q.es.length qe)) (((w.alloc (.cells #[.slice Pn p.ns.length pn, .slice Pe p.es.length pe] 27)).alloc (.cells #[.slice Qn q.ns.length qn, .slice Qe q.es.length qe] 27)).drew)) := Lib.hid ⟨c0, c1, c2, c3⟩
  clear c0 c1 c2 c3 HS0
  refine wp_region_noPanic ?_
  refine wp_region_held_drew (S := (fun u : World => u.cell? ⟨w.heap.size, 0, none⟩ = some (.slice Pn p.ns.length pn) ∧ u.cell? ⟨w.heap.size, 1, none⟩ = some (.slice Pe p.es.length pe) ∧ u.cell? ⟨w.heap.size + 1, 0, none⟩ = some (.slice Qn q.ns.length qn) ∧ u.cell? ⟨w.heap.size + 1, 1, none⟩ = some (.slice Qe q.es.length qe))) (by kernel_rfl) HSS.out (fun hHeld => ?_)
  generalize ((w.alloc (.cells #[.slice Pn p.ns.length pn, .slice Pe p.es.length pe] 27)).alloc (.cells #[.slice Qn q.ns.length qn, .slice Qe q.es.length qe] 27)).drew = wd at *
  refine wpAnyH_take (i := 0) (v := ?_) (oper_at (r := _) rfl) (by kernel_rfl) (by kernel_rfl) (by kernel_rfl) (fun _ _ _ h => h) (Or.inl ⟨by rfl, ?_⟩) (by assumption) ?_
  rotate_left
  · intro w hSw; try dsimp only at hSw
    go_simp
    try with_reducible rfl
  try simp only [Act.put, List.setIfInBounds_toArray, List.set_cons_zero, List.set_cons_succ]
  refine wpAnyH_take (i := 1) (v := ?_) (oper_at (r := _) rfl) (by kernel_rfl) (by kernel_rfl) (by kernel_rfl) (fun _ _ _ h => h) (Or.inl ⟨by rfl, ?_⟩) (by assumption) ?_
  rotate_left
  · intro w hSw; try dsimp only at hSw
    go_simp
    try with_reducible rfl
  try simp only [Act.put, List.setIfInBounds_toArray, List.set_cons_zero, List.set_cons_succ]
  refine wpAnyH_take (i := 2) (v := ?_) (oper_at (r := _) rfl) (by kernel_rfl) (by kernel_rfl) (by kernel_rfl) (fun _ _ _ h => h) (Or.inl ⟨by rfl, ?_⟩) (by assumption) ?_
  rotate_left
  · intro w hSw; try dsimp only at hSw
    go_simp
    try with_reducible rfl
  try simp only [Act.put, List.setIfInBounds_toArray, List.set_cons_zero, List.set_cons_succ]
  refine wpAnyH_take (i := 3) (v := ?_) (oper_at (r := _) rfl) (by kernel_rfl) (by kernel_rfl) (by kernel_rfl) (fun _ _ _ h => h) (Or.inl ⟨by rfl, ?_⟩) (by assumption) ?_
  rotate_left
  · intro w hSw; try dsimp only at hSw
    go_simp
    try with_reducible rfl
  try simp only [Act.put, List.setIfInBounds_toArray, List.set_cons_zero, List.set_cons_succ]
  refine wpAnyH_take (i := 4) (v := ?_) (oper_at (r := _) rfl) (by kernel_rfl) (by kernel_rfl) (by kernel_rfl) (fun _ _ _ h => h) (Or.inl ⟨by rfl, ?_⟩) (by assumption) ?_
  rotate_left
  · intro w hSw; try dsimp only at hSw
    go_simp
    try with_reducible rfl
  try simp only [Act.put, List.setIfInBounds_toArray, List.set_cons_zero, List.set_cons_succ]
  refine wpAnyH_take (i := 5) (v := ?_) (oper_at (r := _) rfl) (by kernel_rfl) (by kernel_rfl) (by kernel_rfl) (fun _ _ _ h => h) (Or.inl ⟨by rfl, ?_⟩) (by assumption) ?_
  rotate_left
  · intro w hSw; try dsimp only at hSw
    go_simp
    try with_reducible rfl
  try simp only [Act.put, List.setIfInBounds_toArray, List.set_cons_zero, List.set_cons_succ]
  refine wpAnyH_take (i := 7) (v := ?_) (oper_at (r := _) rfl) (by kernel_rfl) (by kernel_rfl) (by kernel_rfl) (fun _ _ _ h => h) (Or.inl ⟨by rfl, ?_⟩) (by assumption) ?_
  rotate_left
  · intro w hSw; try dsimp only at hSw
    go_simp
    try with_reducible rfl
  try simp only [Act.put, List.setIfInBounds_toArray, List.set_cons_zero, List.set_cons_succ]
  refine wpAnyH_take (i := 8) (v := ?_) (oper_at (r := _) rfl) (by kernel_rfl) (by kernel_rfl) (by kernel_rfl) (fun _ _ _ h => h) (Or.inl ⟨by rfl, ?_⟩) (by assumption) ?_
  rotate_left
  · intro w hSw; try dsimp only at hSw
    go_simp
    try with_reducible rfl
  try simp only [Act.put, List.setIfInBounds_toArray, List.set_cons_zero, List.set_cons_succ]
  refine wpAnyH_take (i := 9) (v := ?_) (oper_at (r := _) rfl) (by kernel_rfl) (by kernel_rfl) (by kernel_rfl) (fun _ _ _ h => h) (Or.inl ⟨by rfl, ?_⟩) (by assumption) ?_
  rotate_left
  · intro w hSw; try dsimp only at hSw
    go_simp
    try with_reducible rfl
  try simp only [Act.put, List.setIfInBounds_toArray, List.set_cons_zero, List.set_cons_succ]
  refine wpAnyH_take (i := 10) (v := ?_) (oper_at (r := _) rfl) (by kernel_rfl) (by kernel_rfl) (by kernel_rfl) (fun _ _ _ h => h) (Or.inl ⟨by rfl, ?_⟩) (by assumption) ?_
  rotate_left
  · intro w hSw; try dsimp only at hSw
    go_simp
    try with_reducible rfl
  try simp only [Act.put, List.setIfInBounds_toArray, List.set_cons_zero, List.set_cons_succ]
  refine wpAnyH_take (i := 12) (v := ?_) (oper_at (r := _) rfl) (by kernel_rfl) (by kernel_rfl) (by kernel_rfl) (fun _ _ _ h => h) (Or.inl ⟨by rfl, ?_⟩) (by assumption) ?_
  rotate_left
  · intro w hSw; try dsimp only at hSw
    go_simp
    try with_reducible rfl
  try simp only [Act.put, List.setIfInBounds_toArray, List.set_cons_zero, List.set_cons_succ]
  refine wpAnyH_take (i := 13) (v := ?_) (oper_at (r := _) rfl) (by kernel_rfl) (by kernel_rfl) (by kernel_rfl) (fun _ _ _ h => h) (Or.inl ⟨by rfl, ?_⟩) (by assumption) ?_
  rotate_left
  · intro w hSw; try dsimp only at hSw
    go_simp
    try with_reducible rfl
  try simp only [Act.put, List.setIfInBounds_toArray, List.set_cons_zero, List.set_cons_succ]
  refine wpAnyH_take (i := 14) (v := ?_) (oper_at (r := _) rfl) (by kernel_rfl) (by kernel_rfl) (by kernel_rfl) (fun _ _ _ h => h) (Or.inl ⟨by rfl, ?_⟩) (by assumption) ?_
  rotate_left
  · intro w hSw; try dsimp only at hSw
    go_simp
    try with_reducible rfl
  try simp only [Act.put, List.setIfInBounds_toArray, List.set_cons_zero, List.set_cons_succ]
  refine wpAnyH_take (i := 15) (v := ?_) (oper_at (r := _) rfl) (by kernel_rfl) (by kernel_rfl) (by kernel_rfl) (fun _ _ _ h => h) (Or.inl ⟨by rfl, ?_⟩) (by assumption) ?_
  rotate_left
  · intro w hSw; try dsimp only at hSw
    go_simp
    try with_reducible rfl
  try simp only [Act.put, List.setIfInBounds_toArray, List.set_cons_zero, List.set_cons_succ]
  refine wpAnyH_take (i := 16) (v := ?_) (oper_at (r := _) rfl) (by kernel_rfl) (by kernel_rfl) (by kernel_rfl) (fun _ _ _ h => h) (Or.inl ⟨by rfl, ?_⟩) (by assumption) ?_
  rotate_left
  · intro w hSw; try dsimp only at hSw
    go_simp
    try with_reducible rfl
  try simp only [Act.put, List.setIfInBounds_toArray, List.set_cons_zero, List.set_cons_succ]
  refine wpAnyH_take (i := 17) (v := ?_) (oper_at (r := _) rfl) (by kernel_rfl) (by kernel_rfl) (by kernel_rfl) (fun _ _ _ h => h) (Or.inl ⟨by rfl, ?_⟩) (by assumption) ?_
  rotate_left
  · intro w hSw; try dsimp only at hSw
    go_simp
    try with_reducible rfl
  try simp only [Act.put, List.setIfInBounds_toArray, List.set_cons_zero, List.set_cons_succ]
  refine wpAnyH_take (i := 19) (v := ?_) (oper_at (r := _) rfl) (by kernel_rfl) (by kernel_rfl) (by kernel_rfl) (fun _ _ _ h => h) (Or.inl ⟨by rfl, ?_⟩) (by assumption) ?_
  rotate_left
  · intro w hSw; try dsimp only at hSw
    go_simp
    try with_reducible rfl
  try simp only [Act.put, List.setIfInBounds_toArray, List.set_cons_zero, List.set_cons_succ]
  refine wpAnyH_take (i := 20) (v := ?_) (oper_at (r := _) rfl) (by kernel_rfl) (by kernel_rfl) (by kernel_rfl) (fun _ _ _ h => h) (Or.inl ⟨by rfl, ?_⟩) (by assumption) ?_
  rotate_left
  · intro w hSw; try dsimp only at hSw
    go_simp
    try with_reducible rfl
  try simp only [Act.put, List.setIfInBounds_toArray, List.set_cons_zero, List.set_cons_succ]
  refine wpAnyH_take (i := 21) (v := ?_) (oper_at (r := _) rfl) (by kernel_rfl) (by kernel_rfl) (by kernel_rfl) (fun _ _ _ h => h) (Or.inl ⟨by rfl, ?_⟩) (by assumption) ?_
  rotate_left
  · intro w hSw; try dsimp only at hSw
    go_simp
    try with_reducible rfl
  try simp only [Act.put, List.setIfInBounds_toArray, List.set_cons_zero, List.set_cons_succ]
  refine wpAnyH_take (i := 22) (v := ?_) (oper_at (r := _) rfl) (by kernel_rfl) (by kernel_rfl) (by kernel_rfl) (fun _ _ _ h => h) (Or.inl ⟨by rfl, ?_⟩) (by assumption) ?_
  rotate_left
  · intro w hSw; try dsimp only at hSw
    go_simp
    try with_reducible rfl
  try simp only [Act.put, List.setIfInBounds_toArray, List.set_cons_zero, List.set_cons_succ]
  refine wpAnyH_ready (rs := [6]) (by kernel_rfl) (by simp) ?_
  refine AllReadyH.cons (oper_at (r := _) rfl) (fun K hK => ?_) AllReadyH.nil
  go_simp
  refine (HC1.out _).mono ?_
  rintro e u1 ⟨rfl, rfl⟩
  go_wp2_with fail
  refine hK.out _ _ HSS.out (fun _ => ?_)
  clear hK K
  try simp only [Act.put, List.setIfInBounds_toArray, List.set_cons_zero, List.set_cons_succ]
  refine wpAnyH_ready (rs := [11]) (by kernel_rfl) (by simp) ?_
  refine AllReadyH.cons (oper_at (r := _) rfl) (fun K hK => ?_) AllReadyH.nil
  go_simp
  refine (HC2.out _ HBD.out).mono ?_
  rintro e u2 ⟨rfl, rfl⟩
  go_wp2_with fail
  refine hK.out _ _ HSS.out (fun _ => ?_)
  clear hK K
  try simp only [Act.put, List.setIfInBounds_toArray, List.set_cons_zero, List.set_cons_succ]
  refine wpAnyH_ready (rs := [18]) (by kernel_rfl) (by simp) ?_
  refine AllReadyH.cons (oper_at (r := _) rfl) (fun K hK => ?_) AllReadyH.nil
  go_simp
  refine (HC3.out _).mono ?_
  rintro e u3 ⟨rfl, rfl⟩
  go_wp2_with fail
  refine hK.out _ _ HSS.out (fun _ => ?_)
  clear hK K
  try simp only [Act.put, List.setIfInBounds_toArray, List.set_cons_zero, List.set_cons_succ]
  refine wpAnyH_ready (rs := [23]) (by kernel_rfl) (by simp) ?_
  refine AllReadyH.cons (oper_at (r := _) rfl) (fun K hK => ?_) AllReadyH.nil
  go_simp
  refine (HC4.out _ HBD.out).mono ?_
  rintro e u4 ⟨rfl, rfl⟩
  go_wp2_with fail
  refine hK.out _ _ HSS.out (fun _ => ?_)
  clear hK K
  try simp only [Act.put, List.setIfInBounds_toArray, List.set_cons_zero, List.set_cons_succ]
  refine wpAnyH_ready (rs := [24]) (by kernel_rfl) (by simp) ?_
  refine AllReadyH.cons (oper_at (r := _) rfl) (fun K hK => ?_) AllReadyH.nil
  have hb : Below wd.heap.size wd (wd.alloc (.cells #[.int .i64 z1, .int .i64 z2, .int .i64 z3, .int .i64 z4] 3)) := (Below.refl _ _).alloc (Nat.le_refl _) _
  have hr : Ints (wd.alloc (.cells #[.int .i64 z1, .int .i64 z2, .int .i64 z3, .int .i64 z4] 3)) (wd.alloc (.cells #[.int .i64 z1, .int .i64 z2, .int .i64 z3, .int .i64 z4] 3)).heap.size (some ⟨wd.heap.size, 0, none⟩) [z1, z2, z3, z4] := by
    have ho : OwnI (wd.alloc (.cells #[.int .i64 z1, .int .i64 z2, .int .i64 z3, .int .i64 z4] 3)) 0 (.slice (some ⟨wd.heap.size, 0, none⟩) 4 4) [z1, z2, z3, z4] := ⟨rfl, .inr ⟨wd.heap.size, 4, _, rfl, Nat.zero_le _, heap_alloc_new _ _, Nat.le_refl _, by decide, rfl, rfl⟩⟩
    obtain ⟨X, x, e, h⟩ := OwnE.reads ho
    injection e with e e1 e2
    rw [e]; exact h
  have HSB : Hid ((fun u : World => u.cell? ⟨w.heap.size, 0, none⟩ = some (.slice Pn p.ns.length pn) ∧ u.cell? ⟨w.heap.size, 1, none⟩ = some (.slice Pe p.es.length pe) ∧ u.cell? ⟨w.heap.size + 1, 0, none⟩ = some (.slice Qn q.ns.length qn) ∧ u.cell? ⟨w.heap.size + 1, 1, none⟩ = some (.slice Qe q.es.length qe)) (wd.alloc (.cells #[.int .i64 z1, .int .i64 z2, .int .i64 z3, .int .i64 z4] 3))) := Lib.hid ⟨cell_up hb HSS.out.1, cell_up hb HSS.out.2.1, cell_up hb HSS.out.2.2.1, cell_up hb HSS.out.2.2.2⟩
  have HO := Lib.hid (HOR.out _ wd.heap.size 4 hr)
  have HGW : Hid (Grew w (wd.alloc (.cells #[.int .i64 z1, .int .i64 z2, .int .i64 z3, .int .i64 z4] 3))) := Lib.hid ⟨1, _, by rw [HGR.out, Sort.alloc_eq_grow, Sort.grow_grow]⟩
  clear hb hr HOR HGR
  go_simp
  refine hK.out _ _ HSB.out (fun _ => ?_)
  clear hK K
  try simp only [Act.put, List.setIfInBounds_toArray, List.set_cons_zero, List.set_cons_succ]
  generalize wd.alloc (.cells #[.int .i64 z1, .int .i64 z2, .int .i64 z3, .int .i64 z4] 3) = wz at *
  refine wpAnyH_ready (rs := [25]) (by kernel_rfl) (by simp) ?_
  refine AllReadyH.cons (oper_at (r := _) rfl) (fun K hK => ?_) AllReadyH.nil
  go_simp
  refine HO.out.mono ?_
  rintro e u5 ⟨rfl, rfl⟩
  go_wp2_with fail
  refine hK.out _ _ HSB.out (fun _ => ?_)
  clear hK K
  try simp only [Act.put, List.setIfInBounds_toArray, List.set_cons_zero, List.set_cons_succ]
  refine wpAnyH_take (i := 26) (v := ?_) (oper_at (r := _) rfl) (by kernel_rfl) (by kernel_rfl) (by kernel_rfl) (fun _ _ _ h => h) (Or.inl ⟨by rfl, ?_⟩) (by assumption) ?_
  rotate_left
  · intro w hSw; try dsimp only at hSw
    go_simp
    try with_reducible rfl
  try simp only [Act.put, List.setIfInBounds_toArray, List.set_cons_zero, List.set_cons_succ]
  refine wpAnyH_done (by kernel_rfl) ?_ _
  refine NoPanic.normal ?_
  go_wp2_with fail
  go_ret
  exact ⟨ret_int HX.out.symm, HGW.out⟩

/-! the bits of a number -/
set_option maxHeartbeats 1000000 in
theorem tz7_any (x : Nat) (hx : x < 18446744073709551616) (h0 : x ≠ 0) (w : World) (hT : TabV w) : Calls Tryd.prog 107 #[.int .u64 x] w fun e w' => e = .returned (.int .i64 (Lib.ctz 64 x : Int)) ∧ w = w' := by
  have hx0 : ((x : Int) == 0) = false := by simp; omega
  obtain ⟨hlow, hk⟩ := Lib.lowest_bit 64 x h0 hx
  obtain ⟨hi, htab⟩ := Lib.deBruijn64_at _ hk
  have hcell := hT.1 _ hi
  rw [htab] at hcell
  have key := tz64_key x _ hx h0 hlow
  clear hlow htab hT
  generalize Lib.ctz 64 x = k at *
  generalize 2 ^ k * 285870213051353865 % 18446744073709551616 / 288230376151711744 = idx at *
  have i0 : (0 : Int) ≤ (idx : Int) := by omega
  have i1 : (idx : Int) < 64 := by omega
  have i2 : ((idx : Int)).toNat = idx := by omega
  go_enter Tryd.func107, Tryd.ntmps107
  go_wp2_with (simp only [key])
  go_ret
  exact ⟨rfl, rfl⟩
theorem tzU_any (x : Nat) (hx : x < 18446744073709551616) (h0 : x ≠ 0) (w : World) (hT : TabV w) : Calls Tryd.prog 93 #[.int .u64 x] w fun e w' => e = .returned (.int .i64 (Lib.ctz 64 x : Int)) ∧ w = w' := by
  have H := Lib.hid (tz7_any x hx h0 w hT)
  clear hT
  generalize Lib.ctz 64 x = k at *
  go_enter Tryd.func93, Tryd.ntmps93
  go_wp2_with fail
  refine H.out.mono ?_
  rintro e w' ⟨rfl, rfl⟩
  go_wp2_with fail
  go_ret
  exact ⟨rfl, rfl⟩

/-- the bits of a number below 64, the lowest one first -/
def bts (s : Nat) : List Int := sel (fun i => s.testBit i) 6
set_option maxRecDepth 100000 in
theorem bts_step : ∀ s : Fin 64, s.val ≠ 0 → bts s.val = (Lib.ctz 64 s.val : Int) :: bts (s.val &&& (s.val - 1)) ∧ (s.val &&& (s.val - 1)) < s.val ∧ bits .and .u64 (s.val : Int) ((s.val : Int) - 1) = ((s.val &&& (s.val - 1) : Nat) : Int) := by decide
theorem bts_len (s : Nat) : (bts s).length ≤ 6 := sel_le _ _
theorem bts_sel {s n : Nat} (hs : s < 2 ^ n) (hn : n ≤ 6) : bts s = sel (fun i => s.testBit i) n := by
  refine ascI_ext (sel_asc _ _) (sel_asc _ _) fun x => ?_
  unfold bts
  rw [sel_mem, sel_mem]
  constructor
  · rintro ⟨i, _, h, rfl⟩
    refine ⟨i, Nat.lt_of_not_le fun hi => ?_, h, rfl⟩
    have : 2 ^ n ≤ 2 ^ i := Nat.pow_le_pow_right (by omega) hi
    rw [Nat.testBit_lt_two_pow (by omega)] at h
    cases h
  · rintro ⟨i, hi, h, rfl⟩
    exact ⟨i, by omega, h, rfl⟩
set_option maxHeartbeats 1000000 in
theorem membersG_any (s : Nat) (w : World) (hs : s < 64) (hT : TabV w) :
    Calls Tryd.prog 69 #[.int .u64 (s : Int)] w fun e w' => ∃ v, e = .returned v ∧ OwnI w' w.heap.size v (bts s) ∧ Below w.heap.size w w' := by
  have HT := Lib.hid hT
  have HTZ := Lib.hid (fun (x : Nat) (hx : x < 64) (h0 : x ≠ 0) (u : World) (hu : Below w.heap.size w u) => tzU_any x (by omega) h0 u (TabV.up hT hu))
  have HST := Lib.hid (fun (x : Nat) (hx : x < 64) (h0 : x ≠ 0) => bts_step ⟨x, hx⟩ h0)
  have HL := Lib.hid (fun x => bts_len x)
  have HZ : Hid (bts 0 = []) := Lib.hid (by decide)
  have HT0 : Hid (bts s = [] ++ bts s) := Lib.hid rfl
  obtain ⟨T, hTT⟩ : ∃ T, T = bts s := ⟨_, rfl⟩
  rw [← hTT]
  have HTT := Lib.hid (show T = [] ++ bts s from hTT)
  have HTL : Hid (T.length ≤ 6) := Lib.hid (by rw [hTT]; exact bts_len s)
  clear hT hTT HT0
  go_enter Tryd.func69, Tryd.ntmps69
  go_wp2_with fail
  go_loopw [0, 3] (fun x v wr => ∃ (r : Nat) (cs : List Int), r < 64 ∧ x = .int .u64 (r : Int) ∧ OwnI wr w.heap.size v cs ∧ T = cs ++ bts r ∧ Below w.heap.size w wr) (fun x _ _ => (intOf x).toNat)
  case atStart => exact ⟨s, [], hs, rfl, OwnE.nil _ _ _, HTT.out, Below.refl _ _⟩
  case round =>
    obtain ⟨r, cs, hr, rfl, hown, ht, hbel⟩ := hrel
    have HG := Lib.hid hbel
    have HTR := Lib.hid ht
    have hsz := hbel.size
    obtain ⟨ao, cap, rfl⟩ := OwnE.slice hown
    have HW := Lib.hid hown
    by_cases hz : r = 0
    · have HE := Lib.hid (show T = cs by rw [HTR.out, hz, HZ.out, List.append_nil])
      have t1 : ((r : Int) != 0) = false := by simp [hz]
      clear hown hbel hz ht
      go_wp2_with fail
      go_ret
      exact ⟨_, rfl, by rw [HE.out]; exact HW.out, HG.out⟩
    · obtain ⟨e1, e2, e3⟩ := HST.out r hr hz
      have t1 : ((r : Int) != 0) = true := by simp; omega
      have hcl : cs.length ≤ 6 := by
        have h1 := HTL.out
        rw [HTR.out, List.length_append] at h1
        omega
      have HE := Lib.hid (show T = (cs ++ [(Lib.ctz 64 r : Int)]) ++ bts (r &&& (r - 1)) by rw [HTR.out]; rw [e1, List.append_assoc]; rfl)
      have HQ := Lib.hid (HTZ.out r hr hz wr HG.out)
      have r0 : (1 : Int) ≤ (r : Int) := by omega
      have r1 : (r : Int) < 64 := by omega
      have e4 := e3
      have HR2 : Hid ((r &&& (r - 1)) < 64) := Lib.hid (by omega)
      have HM := Lib.hid e2
      clear e1 e2 e3 hown hbel ht hz
      generalize Lib.ctz 64 r = k at *
      generalize r &&& (r - 1) = r2 at *
      go_wp2_with fail
      refine HQ.out.mono ?_
      rintro e w9 ⟨rfl, rfl⟩
      go_wp2_with (at_builtin; refine wpList_append_int (w := wr.alloc _) rfl _ _ rfl w.heap.size _ cs rfl ?y1 wr.heap.size 1 (k : Int) rfl ?y2 ?y3 ?y4 ?_)
      case y1 => exact HW.out.alloc _
      case y2 => exact cell_new _ _ _
      case y3 => omega
      case y4 => simp; omega
      intro v2 w2 hown2 _ hb2
      have HW2 := Lib.hid hown2
      have HB2 := Lib.hid ((HG.out.alloc hsz _).trans hb2)
      clear hown2 hb2
      go_wp2_with fail
      go_roundw
      case rel => exact ⟨r2, _, HR2.out, rfl, HW2.out, HE.out, HB2.out⟩
      case measure => simp [intOf]; exact HM.out

end Go.Proofs.YthnhacncnhknnaaDoor

/-
  Contracts of partition's Generate and Quotient (stage 2's texts, for the functions that graph calls).
-/
namespace Go.Proofs.YthnhacncnhknnaaDoor.Pt
open Go.RowKit


theorem ret_bool {a b : Bool} (h : a = b) : Ending.returned (.bool a) = .returned (.bool b) := by rw [h]
theorem ret_int {k : IntKind} {a b : Int} (h : a = b) : Ending.returned (.int k a) = .returned (.int k b) := by rw [h]

def toI (ys : List Nat) : List Int := ys.map fun n : Nat => (n : Int)
theorem toI_length (ys : List Nat) : (toI ys).length = ys.length := by simp [toI]
theorem toI_get? (ys : List Nat) (i : Nat) : (toI ys)[i]? = ys[i]?.map fun n : Nat => (n : Int) := by simp [toI]
theorem toI_at (ys : List Nat) (i : Nat) : (toI ys).getD i 0 = (at_ ys i : Int) := by
  simp only [List.getD, toI_get?, at_]
  cases ys[i]? <;> simp
/-- the slice at A reads as xs, in a block below B -/
def Ints (w : World) (B : Nat) (A : Option Addr) (xs : List Int) : Prop :=
  xs = [] ∨ ∃ b off, A = some ⟨b, off, none⟩ ∧ b < B ∧ ∀ i x, xs[i]? = some x → w.cell? ⟨b, off + i, none⟩ = some (.int .i64 x)

theorem getD_get {xs : List Int} {i : Nat} (h : i < xs.length) : xs[i]? = some (xs.getD i 0) := by simp [List.getD, h]

theorem Ints.at {w : World} {B : Nat} {A : Option Addr} {xs : List Int} (h : Ints w B A xs) {k : Nat} (hk : k < xs.length) :
    ∃ b off, A = some ⟨b, off, none⟩ ∧ b < B ∧ ∀ i, i < xs.length → w.cell? ⟨b, off + i, none⟩ = some (.int .i64 (xs.getD i 0)) := by
  rcases h with h | ⟨b, off, h1, h2, h3⟩
  · subst h; simp at hk
  · exact ⟨b, off, h1, h2, fun i hi => h3 i _ (getD_get hi)⟩

theorem Ints.below {w w' : World} {B : Nat} {A : Option Addr} {xs : List Int} (h : Ints w B A xs) (hb : Below B w w') : Ints w' B A xs := by
  rcases h with h | ⟨b, off, h1, h2, h3⟩
  · exact .inl h
  · exact .inr ⟨b, off, h1, h2, fun i x hx => (hb.cell (p := ⟨b, off + i, none⟩) h2).trans (h3 i x hx)⟩
theorem Ints.mono {w : World} {B B' : Nat} {A : Option Addr} {xs : List Int} (h : Ints w B A xs) (hb : B ≤ B') : Ints w B' A xs := by
  rcases h with h | ⟨b, off, h1, h2, h3⟩
  · exact .inl h
  · exact .inr ⟨b, off, h1, by omega, h3⟩
theorem Ints.up {w w' : World} {A : Option Addr} {xs : List Int} (h : Ints w w.heap.size A xs) (hb : Below w.heap.size w w') : Ints w' w'.heap.size A xs :=
  (h.below hb).mono hb.size

def cellsN (ys : List Nat) : List Value := ys.map fun n : Nat => Value.int .i64 (n : Int)
theorem cellsN_snoc (ys : List Nat) (n : Nat) : cellsN (ys ++ [n]) = cellsN ys ++ [.int .i64 (n : Int)] := by simp [cellsN]
theorem cellsN_set (ys : List Nat) (j n : Nat) : (cellsN ys).set j (.int .i64 (n : Int)) = cellsN (ys.set j n) := by simp [cellsN, List.map_set]
theorem cellsN_get {ys : List Nat} {i : Nat} (h : i < ys.length) : (cellsN ys)[i]? = some (.int .i64 (at_ ys i : Nat)) := by simp [cellsN, at_, h]
theorem addr_plain (b off j : Nat) : (⟨b, off, none⟩ : Addr).add j = ⟨b, off + j, none⟩ := Addr.add_lit _ _ _

theorem slice_of {w : World} {base : Nat} {e : TypeId} {size : Nat} {v : Value} {n : Nat} {xs : List Value} (h : w.ownsRow base e size v n xs) : ∃ ao cap, v = .slice ao n cap := by
  rcases h.2 with ⟨hv, h0⟩ | ⟨g, cap, cur, hv, _⟩
  · exact ⟨none, 0, by rw [hv, h0]⟩
  · exact ⟨_, _, hv⟩

/-- a slice that a call made -/
abbrev Own (w : World) (base : Nat) (v : Value) (ys : List Nat) : Prop := w.ownsRow base 3 1 v ys.length (cellsN ys)

theorem Own.below {w w' : World} {base B : Nat} {v : Value} {ys : List Nat} (h : Own w base v ys) (hb : Below B w w') (hB : w.heap.size ≤ B) : Own w' base v ys := by
  refine ⟨h.1, ?_⟩
  rcases h.2 with hn | ⟨g, cap, cur, hv, hbg, hg, rest⟩
  · exact .inl hn
  · exact .inr ⟨g, cap, cur, hv, hbg, by rw [hb.block g (Nat.lt_of_lt_of_le (h.lt g (by rw [hv]; rfl)).2 hB)]; exact hg, rest⟩

theorem below_draws {B : Nat} {a w : World} (h : Below B a w) (n : Nat) : Below B a (w.drewN n) := ⟨h.os, h.tape, h.output, h.size, h.block⟩

theorem infoInt : (Tryd.prog.info? 3).map (fun i => (i.zero, i.size, i.bytes)) = some (some (.int .i64 0), 1, 8) := by kernel_rfl



theorem grown_refl (a : World) (r : Option Nat) : a.grownBy a r := ⟨rfl, rfl, rfl, Nat.le_refl _, fun _ _ _ => rfl⟩
theorem Own.cell {w : World} {base g c : Nat} {ys : List Nat} (h : Own w base (.slice (some ⟨g, 0, none⟩) ys.length c) ys) {j : Nat} (hj : j < ys.length) : w.cell? ⟨g, j, none⟩ = some (.int .i64 (at_ ys j : Nat)) := by
  rw [World.ownsRow.cellAt h j (by omega), cellsN_get hj]
theorem Own.set {w : World} {base g c n : Nat} {ys : List Nat} (hn : n = ys.length) (h : Own w base (.slice (some ⟨g, 0, none⟩) n c) ys) (j m : Nat) :
    Own (w.setCell ⟨g, j, none⟩ (.int .i64 (m : Int))) base (.slice (some ⟨g, 0, none⟩) n c) (ys.set j m) ∧ w.grownBy (w.setCell ⟨g, j, none⟩ (.int .i64 (m : Int))) (some g) := by
  subst hn
  have := World.ownsRow.stored h j (.int .i64 (m : Int))
  rw [cellsN_set] at this
  refine ⟨?_, this.2⟩
  have e : (ys.set j m).length = ys.length := by simp
  unfold Own
  rw [e]
  exact this.1
theorem Own.grown {w w' : World} {base g : Nat} {v : Value} {ys : List Nat} (h : Own w base v ys) (hg : w.grownBy w' (some g)) (hne : v.ownBlock ≠ some g) : Own w' base v ys := World.ownsRow.kept h hg (.inr hne)

theorem Own.lt' {w : World} {base : Nat} {v : Value} {ys : List Nat} (h : Own w base v ys) : ∀ k, v.ownBlock = some k → base ≤ k := fun k hk => (h.lt k hk).1

theorem wpList_append_int {w : World} {ops : Array Oper} {rest : List Oper} {o : Oper} {a : Act} {Q : Exit → Act → World → Prop} (hgd : o.guard = none) (s x : Operand)
    (ho : o.op = .call { callee := .builtin .append, args := #[s, x], argTypes := #[22, 22] })
    (base : Nat) (v : Value) (ys : List Nat) (hs : a.eval s = v) (hown : Own w base v ys) (ad : Addr) (c m : Nat) (hx : a.eval x = .slice (some ad) 1 c)
    (hc : w.cell? ad = some (.int .i64 (m : Int))) (hl : ys.length ≤ 1000000) (hbase : base ≤ w.heap.size)
    (hK : ∀ v' w', Own w' base v' (ys ++ [m]) → w.grownBy w' v.ownBlock → Below base w w' → wpList Tryd.prog ops Q rest (a.put o.dst v') w') : wpList Tryd.prog ops Q (o :: rest) a w := by
  obtain ⟨i0, hi, hz0, hz1, hz2⟩ := info_parts infoInt
  refine wpList_append_own w hgd s x 22 ho base 3 i0 (.int .i64 0) 1 8 Tryd.underlying22 hi hz0 hz1 hz2 rfl (by decide) v ys.length (cellsN ys) hs hown ad 1 c [.int .i64 (m : Int)] hx rfl ?_ ?_ (by unfold maxLen; omega) (by omega) hbase ?_
  · intro j u hj
    cases j with
    | zero => simp at hj; subst hj; obtain ⟨b, off, sp⟩ := ad; have : (⟨b, off, sp⟩ : Addr).add 0 = ⟨b, off, sp⟩ := by simp [Addr.add]
              rw [this]; exact hc
    | succ j => simp at hj
  · intro u hu; simp at hu; subst hu; rfl
  · intro v' w' h1 h2 _
    refine hK v' w' ?_ h2 ((Below.refl base w).grown h2 hbase hown.lt')
    unfold Own
    rw [cellsN_snoc, List.length_append]
    exact h1

theorem Own.cast {w : World} {base : Nat} {v : Value} {ys zs : List Nat} (e : ys = zs) (h : Own w base v ys) : Own w base v zs := e ▸ h


theorem Own.mono {w : World} {base base' : Nat} {v : Value} {ys : List Nat} (h : Own w base v ys) (hb : base' ≤ base) : Own w base' v ys :=
  ⟨h.1, h.2.imp id fun ⟨g, cap, cur, hv, hg, r⟩ => ⟨g, cap, cur, hv, Nat.le_trans hb hg, r⟩⟩

theorem cell_new (w : World) (u : Value) (t : TypeId) : (w.alloc (.cells #[u] t)).cell? ⟨w.heap.size, 0, none⟩ = some u := by simp



end Go.Proofs.YthnhacncnhknnaaDoor.Pt

/-
  Graphs, the program: Components.
-/
namespace Go.Proofs.YthnhacncnhknnaaDoor
open Go.RowKit
open Pt (at_)

/-! from the texts of partition, and back -/
def CompC (f : FuncId) : Prop := ∀ (g : Gr) (An : Option Addr) (cn : Nat) (Ae : Option Addr) (ce : Nat) (w : World), GrAt w An cn Ae ce g →
  Calls Tryd.prog f #[gval An g.ns.length cn Ae g.es.length ce] w fun e w' => (∃ v, e = .returned (.tuple #[v, .int .i64 (validE g : Nat)]) ∧ IsP w' v (compR g)) ∧ Below w.heap.size w w'

end Go.Proofs.YthnhacncnhknnaaDoor
