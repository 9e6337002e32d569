import Derived.Test.YtaeelanbkdkppaaDoorZ11
import Derived.Test.YtaeelanbkdkppaaDoorZ09
import Derived.Test.YtaeelanbkdkppaaDoorZ10
import Derived.Test.YtaeelanbkdkppaaDoorZ07
import Derived.Deep.RegionLaw
import Derived.Deep.DeepCutAuto
import Derived.Deep.CutBlock
import Derived.Deep.RegionWith
/-
  Identity, Compose, Inverse, Injective, Surjective of the program. Printed by mkops.py.
-/
namespace Go.Proofs.YtaeelanbkdkppaaDoor
open Go.RowKit Go.Shelf

set_option maxRecDepth 100000 in
set_option maxHeartbeats 4000000 in
theorem identM_any (a : Gr)  (An : Option Addr) (cn : Nat) (Ae : Option Addr) (ce : Nat) (w : World) (hTa : GrAt w An cn Ae ce a) :
    Calls Tryd.prog 21 #[gval An a.ns.length cn Ae a.es.length ce] w fun e w' => (∃ v, e = .returned (.tuple #[v, .int .i64 (validE a : Int)]) ∧ IsM w' v (idR a)) ∧ Below w.heap.size w w' := by
  have hS0 : SR w _ ((w.alloc (.cells #[.slice An a.ns.length cn, .slice Ae a.es.length ce] 25)).alloc (.cells #[.slice none 0 0, .slice none 0 0] 27)) := SR.push (SR.push (SR.nil w) rfl _ _ _) (by simp) _ _ _
  have HV := Lib.hid (validP_any a An cn Ae ce _ (hTa.up hS0.1))
  have HZ := Lib.hid (fun h => valid_zero (g := a) h)
  have HI : Hid (idR a = if validE a = 0 then idM a else noM) := Lib.hid rfl
  have HS0 := Lib.hid hS0
  clear hTa hS0
  generalize idR a = R at HI ⊢
  generalize validE a = z at *
  go_enter Tryd.func21, Tryd.ntmps21
  go_wp2_with fail
  refine HV.out.mono ?_
  rintro e w1 ⟨rfl, hb1⟩
  have HS := Lib.hid (HS0.out.up hb1)
  clear hb1 HS0 HV
  obtain ⟨c0x, c0y⟩ := HS.out.cell (i := 0) rfl
  obtain ⟨c1x, c1y⟩ := HS.out.cell (i := 1) rfl
  simp only [Nat.add_zero] at c0x c0y
  have fr0 := HS.out.free (i := 1) rfl 0
  have fr1 := HS.out.free (i := 1) rfl 1
  by_cases hz : z = 0
  case neg =>
    have t1 : ((z : Int) != 0) = true := by simp; omega
    have HR := Lib.hid (show R = noM by rw [HI.out, if_neg hz])
    clear hz
    go_wp2_with fail
    have hS2 := HS.out.set (i := 1) rfl (.slice none 0 0) (.slice none 0 0)
    obtain ⟨r0, r1⟩ := hS2.cell (i := 1) rfl
    refine bodyPost_ret (v := .tuple #[gval none 0 0 none 0 0, .int .i64 ((z : Nat))]) (by simp [results, Tryd.results21, go_sem, r0, r1]) rfl ?_
    exact ⟨⟨_, rfl, by rw [HR.out]; exact isM_nil _⟩, hS2.1⟩
  subst hz
  obtain ⟨l1, l2, _⟩ := HZ.out rfl
  have HR : Hid (R = ⟨numS (0 : Nat) a.ns.length, numS (0 : Nat) a.es.length⟩) := Lib.hid (by rw [HI.out, if_pos rfl]; rfl)
  have HN1 := Lib.hid (fun u (_ : Below w.heap.size w u) => numbersM_any a.ns.length u (by omega))
  have HN2 := Lib.hid (fun u (_ : Below w.heap.size w u) => numbersM_any a.es.length u (by omega))
  generalize numS (0 : Nat) a.ns.length = L1 at *
  generalize numS (0 : Nat) a.es.length = L2 at *
  clear HZ HI
  go_wp2_with fail
  have HSd : Hid (SR w _ w1.drew) := Lib.hid (HS.out.up (below_d _))
  have HS1 : Hid ((fun u : World => u.cell? ⟨w.heap.size, 0, none⟩ = some (.slice An a.ns.length cn) ∧ u.cell? ⟨w.heap.size, 1, none⟩ = some (.slice Ae a.es.length ce)) w1.drew) := Lib.hid ⟨c0x, c0y⟩
  have HUP : Hid (∀ u u', (fun u : World => u.cell? ⟨w.heap.size, 0, none⟩ = some (.slice An a.ns.length cn) ∧ u.cell? ⟨w.heap.size, 1, none⟩ = some (.slice Ae a.es.length ce)) u → Below u.heap.size u u' → (fun u : World => u.cell? ⟨w.heap.size, 0, none⟩ = some (.slice An a.ns.length cn) ∧ u.cell? ⟨w.heap.size, 1, none⟩ = some (.slice Ae a.es.length ce)) u') := Lib.hid fun u u' h hb => ⟨cell_up hb (h.1), cell_up hb (h.2)⟩
  clear c0x c0y c1x c1y fr0 fr1
  refine wp_region_noPanic ?_
  refine wp_region_held_drew (S := (fun u : World => u.cell? ⟨w.heap.size, 0, none⟩ = some (.slice An a.ns.length cn) ∧ u.cell? ⟨w.heap.size, 1, none⟩ = some (.slice Ae a.es.length ce))) (by kernel_rfl) (HS1.out) (fun hHeld => ?_)
  refine wpAnyH_take (i := 0) (v := ?_) (oper_at (r := _) rfl) (by kernel_rfl) (by kernel_rfl) (by kernel_rfl) (fun _ _ _ h => h) (Or.inl ⟨by rfl, ?_⟩) (by assumption) ?_
  rotate_left
  · intro w hSw; try dsimp only at hSw
    go_simp
    try with_reducible rfl
  try simp only [Act.put, List.setIfInBounds_toArray, List.set_cons_zero, List.set_cons_succ]
  refine wpAnyH_take (i := 1) (v := ?_) (oper_at (r := _) rfl) (by kernel_rfl) (by kernel_rfl) (by kernel_rfl) (fun _ _ _ h => h) (Or.inl ⟨by rfl, ?_⟩) (by assumption) ?_
  rotate_left
  · intro w hSw; try dsimp only at hSw
    go_simp
    try with_reducible rfl
  try simp only [Act.put, List.setIfInBounds_toArray, List.set_cons_zero, List.set_cons_succ]
  refine wpAnyH_take (i := 2) (v := ?_) (oper_at (r := _) rfl) (by kernel_rfl) (by kernel_rfl) (by kernel_rfl) (fun _ _ _ h => h) (Or.inl ⟨by rfl, ?_⟩) (by assumption) ?_
  rotate_left
  · intro w hSw; try dsimp only at hSw
    go_simp
    try with_reducible rfl
  try simp only [Act.put, List.setIfInBounds_toArray, List.set_cons_zero, List.set_cons_succ]
  refine wpAnyH_take (i := 4) (v := ?_) (oper_at (r := _) rfl) (by kernel_rfl) (by kernel_rfl) (by kernel_rfl) (fun _ _ _ h => h) (Or.inl ⟨by rfl, ?_⟩) (by assumption) ?_
  rotate_left
  · intro w hSw; try dsimp only at hSw
    go_simp
    try with_reducible rfl
  try simp only [Act.put, List.setIfInBounds_toArray, List.set_cons_zero, List.set_cons_succ]
  refine wpAnyH_take (i := 5) (v := ?_) (oper_at (r := _) rfl) (by kernel_rfl) (by kernel_rfl) (by kernel_rfl) (fun _ _ _ h => h) (Or.inl ⟨by rfl, ?_⟩) (by assumption) ?_
  rotate_left
  · intro w hSw; try dsimp only at hSw
    go_simp
    try with_reducible rfl
  try simp only [Act.put, List.setIfInBounds_toArray, List.set_cons_zero, List.set_cons_succ]
  refine wpAnyH_take (i := 6) (v := ?_) (oper_at (r := _) rfl) (by kernel_rfl) (by kernel_rfl) (by kernel_rfl) (fun _ _ _ h => h) (Or.inl ⟨by rfl, ?_⟩) (by assumption) ?_
  rotate_left
  · intro w hSw; try dsimp only at hSw
    go_simp
    try with_reducible rfl
  try simp only [Act.put, List.setIfInBounds_toArray, List.set_cons_zero, List.set_cons_succ]
  refine wpAnyH_ready (rs := [3]) (by kernel_rfl) (by simp) ?_
  refine AllReadyH.cons (oper_at (r := _) rfl) (fun K hK => ?_) AllReadyH.nil
  go_simp
  refine (HN1.out _ HSd.out.1).mono ?_
  rintro e w2 ⟨v2, rfl, ho2, hb2⟩
  have HS2 := Lib.hid (HUP.out _ _ HS1.out hb2)
  have HLE := Lib.hid hb2.size
  have HSR2 := Lib.hid (HSd.out.up hb2)
  have HO2 := Lib.hid ho2
  obtain ⟨A2, d2, rfl⟩ := OwnE.slice ho2
  clear ho2 hb2
  go_wp2_with fail
  refine hK.out _ _ (HS2.out) (fun _ => ?_)
  clear hK K
  try simp only [Act.put, List.setIfInBounds_toArray, List.set_cons_zero, List.set_cons_succ]
  refine wpAnyH_ready (rs := [7]) (by kernel_rfl) (by simp) ?_
  refine AllReadyH.cons (oper_at (r := _) rfl) (fun K hK => ?_) AllReadyH.nil
  go_simp
  refine (HN2.out _ HSR2.out.1).mono ?_
  rintro e w3 ⟨v3, rfl, ho3, hb3⟩
  have HS3 := Lib.hid (HUP.out _ _ HS2.out hb3)
  have HSR3 := Lib.hid (HSR2.out.up hb3)
  have HOO := Lib.hid (OwnE.below HO2.out hb3 (Nat.le_refl _))
  have HO3 := Lib.hid ho3
  obtain ⟨A3, d3, rfl⟩ := OwnE.slice ho3
  clear ho3 hb3 HO2
  go_wp2_with fail
  refine hK.out _ _ (HS3.out) (fun _ => ?_)
  clear hK K
  try simp only [Act.put, List.setIfInBounds_toArray, List.set_cons_zero, List.set_cons_succ]
  refine wpAnyH_take (i := 8) (v := ?_) (oper_at (r := _) rfl) (by kernel_rfl) (by kernel_rfl) (by kernel_rfl) (fun _ _ _ h => h) (Or.inl ⟨by rfl, ?_⟩) (by assumption) ?_
  rotate_left
  · intro w hSw; try dsimp only at hSw
    go_simp
    try with_reducible rfl
  try simp only [Act.put, List.setIfInBounds_toArray, List.set_cons_zero, List.set_cons_succ]
  obtain ⟨c1x, c1y⟩ := HSR3.out.cell (i := 1) rfl
  have fr0 := HSR3.out.free (i := 1) rfl 0
  have fr1 := HSR3.out.free (i := 1) rfl 1
  have HSZ := Lib.hid (HSR3.out.set (i := 1) rfl (.slice A2 L1.length d2) (.slice A3 L2.length d3))
  obtain ⟨z0x, z0y⟩ := HSZ.out.cell (i := 0) rfl
  simp only [Nat.add_zero] at z0x z0y
  have HS4 : Hid ((fun u : World => u.cell? ⟨w.heap.size, 0, none⟩ = some (.slice An a.ns.length cn) ∧ u.cell? ⟨w.heap.size, 1, none⟩ = some (.slice Ae a.es.length ce)) _) := Lib.hid ⟨z0x, z0y⟩
  clear z0x z0y
  refine wpAnyH_ready (rs := [9]) (by kernel_rfl) (by simp) ?_
  refine AllReadyH.cons (oper_at (r := _) rfl) (fun K hK => ?_) AllReadyH.nil
  go_simp
  refine hK.out _ _ (HS4.out) (fun _ => ?_)
  clear hK K
  try simp only [Act.put, List.setIfInBounds_toArray, List.set_cons_zero, List.set_cons_succ]
  refine wpAnyH_take (i := 10) (v := ?_) (oper_at (r := _) rfl) (by kernel_rfl) (by kernel_rfl) (by kernel_rfl) (fun _ _ _ h => h) (Or.inl ⟨by rfl, ?_⟩) (by assumption) ?_
  rotate_left
  · intro w hSw; try dsimp only at hSw
    go_simp
    try with_reducible rfl
  try simp only [Act.put, List.setIfInBounds_toArray, List.set_cons_zero, List.set_cons_succ]
  refine wpAnyH_done (by kernel_rfl) ?_ _
  refine NoPanic.normal ?_
  go_wp2_with fail
  obtain ⟨r0, r1⟩ := HSZ.out.cell (i := 1) rfl
  have hlt : w.heap.size + 1 < w1.heap.size := heap_lt (HS.out.2 1 _ rfl)
  have hsd := HSR2.out.1.size
  have hle : w1.drew.heap.size ≤ w2.heap.size := HLE.out
  refine bodyPost_ret (v := .tuple #[.agg #[.slice A2 L1.length d2, .slice A3 L2.length d3], .int .i64 0]) (by simp [results, Tryd.results21, go_sem, r0, r1]) rfl ?_
  have s1 : OwnI ((w3.setCell ⟨w.heap.size + 1, 0, none⟩ (.slice A2 L1.length d2)).setCell ⟨w.heap.size + 1, 1, none⟩ (.slice A3 L2.length d3)) _ _ _ := ownsRow_setCell_below (ownsRow_setCell_below HOO.out (by show w.heap.size + 1 < w1.heap.size; exact hlt) _) (by show w.heap.size + 1 < w1.heap.size; exact hlt) _
  have s2 : OwnI ((w3.setCell ⟨w.heap.size + 1, 0, none⟩ (.slice A2 L1.length d2)).setCell ⟨w.heap.size + 1, 1, none⟩ (.slice A3 L2.length d3)) _ _ _ := ownsRow_setCell_below (ownsRow_setCell_below HO3.out (by show w.heap.size + 1 < w2.heap.size; exact Nat.lt_of_lt_of_le hlt hle) _) (by show w.heap.size + 1 < w2.heap.size; exact Nat.lt_of_lt_of_le hlt hle) _
  exact ⟨⟨_, rfl, by rw [HR.out]; exact isM_of (g := ⟨L1, L2⟩) (isI_own s1) (isI_own s2)⟩, HSZ.out.1⟩

set_option maxRecDepth 100000 in
set_option maxHeartbeats 4000000 in
theorem composeM_any (a b c : Gr) (m n : Mo) (An : Option Addr) (cn : Nat) (Ae : Option Addr) (ce : Nat) (Bn : Option Addr) (dn : Nat) (Be : Option Addr) (de : Nat) (Cn : Option Addr) (kn : Nat) (Ce : Option Addr) (ke : Nat) (Mn : Option Addr) (mn : Nat) (Me : Option Addr) (me : Nat) (Nn : Option Addr) (nn : Nat) (Ne : Option Addr) (ne : Nat) (w : World) (hTa : GrAt w An cn Ae ce a) (hTb : GrAt w Bn dn Be de b) (hTc : GrAt w Cn kn Ce ke c) (hm1 : Ints w w.heap.size Mn m.ns) (hm2 : Ints w w.heap.size Me m.es) (lm1 : m.ns.length ≤ 1000) (lm2 : m.es.length ≤ 1000) (hn1 : Ints w w.heap.size Nn n.ns) (hn2 : Ints w w.heap.size Ne n.es) (ln1 : n.ns.length ≤ 1000) (ln2 : n.es.length ≤ 1000) :
    Calls Tryd.prog 25 #[gval An a.ns.length cn Ae a.es.length ce, gval Bn b.ns.length dn Be b.es.length de, gval Cn c.ns.length kn Ce c.es.length ke, gval Mn m.ns.length mn Me m.es.length me, gval Nn n.ns.length nn Ne n.es.length ne] w fun e w' => (∃ v, e = .returned (.tuple #[v, .int .i64 (cmpE a b c m n : Int)]) ∧ IsM w' v (cmpR a b c m n)) ∧ Below w.heap.size w w' := by
  have hS0 : SR w _ ((((((w.alloc (.cells #[.slice An a.ns.length cn, .slice Ae a.es.length ce] 25)).alloc (.cells #[.slice Bn b.ns.length dn, .slice Be b.es.length de] 25)).alloc (.cells #[.slice Cn c.ns.length kn, .slice Ce c.es.length ke] 25)).alloc (.cells #[.slice Mn m.ns.length mn, .slice Me m.es.length me] 27)).alloc (.cells #[.slice Nn n.ns.length nn, .slice Ne n.es.length ne] 27)).alloc (.cells #[.slice none 0 0, .slice none 0 0] 27)) := SR.push (SR.push (SR.push (SR.push (SR.push (SR.push (SR.nil w) rfl _ _ _) (by simp) _ _ _) (by simp) _ _ _) (by simp) _ _ _) (by simp) _ _ _) (by simp) _ _ _
  have HV := Lib.hid (validM_any a b m An cn Ae ce Bn dn Be de Mn mn Me me _ (hTa.up hS0.1) (hTb.up hS0.1) (Reads.up hm1 hS0.1) (Reads.up hm2 hS0.1) lm1 lm2)
  have HV2 := Lib.hid (fun (u : World) (hu : Below w.heap.size w u) => validM_any b c n Bn dn Be de Cn kn Ce ke Nn nn Ne ne u (hTb.up hu) (hTc.up hu) (Reads.up hn1 hu) (Reads.up hn2 hu) ln1 ln2)
  have HZ := Lib.hid (fun h => mor_zero (a := a) (b := b) (m := m).1 h)
  have HZ2 := Lib.hid (fun h => mor_zero (a := b) (b := c) (m := n).1 h)
  have HE : Hid (cmpE a b c m n = if morE a b m ≠ 0 then morE a b m else morE b c n) := Lib.hid rfl
  have HI : Hid (cmpR a b c m n = if cmpE a b c m n = 0 then compM m n else noM) := Lib.hid rfl
  have HS0 := Lib.hid hS0
  have HF1 := Lib.hid (fun (hr : ∀ x ∈ m.ns, 0 ≤ x ∧ x < n.ns.length) (u : World) (hu : Below w.heap.size w u) => follow_any m.ns n.ns Mn Nn mn nn u lm1 hr (Reads.up hm1 hu) (Reads.up hn1 hu))
  have HF2 := Lib.hid (fun (hr : ∀ x ∈ m.es, 0 ≤ x ∧ x < n.es.length) (u : World) (hu : Below w.heap.size w u) => follow_any m.es n.es Me Ne me ne u lm2 hr (Reads.up hm2 hu) (Reads.up hn2 hu))
  clear hTa hTb hTc hm1 hm2 hn1 hn2 hS0
  generalize cmpR a b c m n = R at HI ⊢
  generalize cmpE a b c m n = E at *
  generalize morE a b m = z at *
  generalize morE b c n = z2 at *
  go_enter Tryd.func25, Tryd.ntmps25
  go_wp2_with fail
  refine HV.out.mono ?_
  rintro e w0 ⟨rfl, hb1⟩
  have HS := Lib.hid (HS0.out.up hb1)
  clear hb1 HS0 HV
  obtain ⟨c0x, c0y⟩ := HS.out.cell (i := 0) rfl
  obtain ⟨c1x, c1y⟩ := HS.out.cell (i := 1) rfl
  obtain ⟨c2x, c2y⟩ := HS.out.cell (i := 2) rfl
  obtain ⟨c3x, c3y⟩ := HS.out.cell (i := 3) rfl
  obtain ⟨c4x, c4y⟩ := HS.out.cell (i := 4) rfl
  obtain ⟨c5x, c5y⟩ := HS.out.cell (i := 5) rfl
  simp only [Nat.add_zero] at c0x c0y
  have fr0 := HS.out.free (i := 5) rfl 0
  have fr1 := HS.out.free (i := 5) rfl 1
  by_cases hz : z = 0
  case neg =>
    have t1 : ((z : Int) != 0) = true := by simp; omega
    have hE : E = z := by rw [HE.out, if_pos hz]
    have HEE := Lib.hid hE
    have HR := Lib.hid (show R = noM by rw [HI.out, if_neg (by rw [hE]; exact hz)])
    clear hz hE
    go_wp2_with fail
    have hS2 := HS.out.set (i := 5) rfl (.slice none 0 0) (.slice none 0 0)
    obtain ⟨r0, r1⟩ := hS2.cell (i := 5) rfl
    refine bodyPost_ret (v := .tuple #[gval none 0 0 none 0 0, .int .i64 ((z : Nat))]) (by simp [results, Tryd.results25, go_sem, r0, r1]) rfl ?_
    exact ⟨⟨_, by rw [HEE.out], by rw [HR.out]; exact isM_nil _⟩, hS2.1⟩
  subst hz
  have HK1 := Lib.hid (HZ.out rfl)
  clear HZ
  have HEE := Lib.hid (show E = z2 by rw [HE.out, if_neg (fun h => h rfl)])
  clear c0x c0y c1x c1y c2x c2y c3x c3y c4x c4y c5x c5y fr0 fr1
  obtain ⟨c0x, c0y⟩ := HS.out.cell (i := 0) rfl
  obtain ⟨c1x, c1y⟩ := HS.out.cell (i := 1) rfl
  obtain ⟨c2x, c2y⟩ := HS.out.cell (i := 2) rfl
  obtain ⟨c3x, c3y⟩ := HS.out.cell (i := 3) rfl
  obtain ⟨c4x, c4y⟩ := HS.out.cell (i := 4) rfl
  obtain ⟨c5x, c5y⟩ := HS.out.cell (i := 5) rfl
  simp only [Nat.add_zero] at c0x c0y
  go_wp2_with fail
  refine (HV2.out _ HS.out.1).mono ?_
  rintro e w1 ⟨rfl, hb1⟩
  clear c0x c0y c1x c1y c2x c2y c3x c3y c4x c4y c5x c5y
  have HS := Lib.hid (HS.out.up hb1)
  clear hb1 HV2
  obtain ⟨c0x, c0y⟩ := HS.out.cell (i := 0) rfl
  obtain ⟨c1x, c1y⟩ := HS.out.cell (i := 1) rfl
  obtain ⟨c2x, c2y⟩ := HS.out.cell (i := 2) rfl
  obtain ⟨c3x, c3y⟩ := HS.out.cell (i := 3) rfl
  obtain ⟨c4x, c4y⟩ := HS.out.cell (i := 4) rfl
  obtain ⟨c5x, c5y⟩ := HS.out.cell (i := 5) rfl
  simp only [Nat.add_zero] at c0x c0y
  have fr0 := HS.out.free (i := 5) rfl 0
  have fr1 := HS.out.free (i := 5) rfl 1
  by_cases hz : z2 = 0
  case neg =>
    have t1 : ((z2 : Int) != 0) = true := by simp; omega
    have HR := Lib.hid (show R = noM by rw [HI.out, if_neg (by rw [HEE.out]; exact hz)])
    clear hz
    go_wp2_with fail
    have hS2 := HS.out.set (i := 5) rfl (.slice none 0 0) (.slice none 0 0)
    obtain ⟨r0, r1⟩ := hS2.cell (i := 5) rfl
    refine bodyPost_ret (v := .tuple #[gval none 0 0 none 0 0, .int .i64 ((z2 : Nat))]) (by simp [results, Tryd.results25, go_sem, r0, r1]) rfl ?_
    exact ⟨⟨_, by rw [HEE.out], by rw [HR.out]; exact isM_nil _⟩, hS2.1⟩
  subst hz
  have k1 := HK1.out
  have k2 := HZ2.out rfl
  have HN1 := Lib.hid (HF1.out fun x hx => by rw [k2.ln]; exact k1.rn x hx)
  have HN2 := Lib.hid (HF2.out fun x hx => by rw [k2.le]; exact k1.re x hx)
  have HR : Hid (R = ⟨thr m.ns n.ns, thr m.es n.es⟩) := Lib.hid (by rw [HI.out, if_pos HEE.out]; rfl)
  generalize thr m.ns n.ns = L1 at *
  generalize thr m.es n.es = L2 at *
  clear HK1 HZ2 HI HE k1 k2 HF1 HF2
  go_wp2_with fail
  have HSd : Hid (SR w _ w1.drew) := Lib.hid (HS.out.up (below_d _))
  have HS1 : Hid ((fun u : World => u.cell? ⟨w.heap.size + 1 + 1 + 1, 0, none⟩ = some (.slice Mn m.ns.length mn) ∧ u.cell? ⟨w.heap.size + 1 + 1 + 1, 1, none⟩ = some (.slice Me m.es.length me) ∧ u.cell? ⟨w.heap.size + 1 + 1 + 1 + 1, 0, none⟩ = some (.slice Nn n.ns.length nn) ∧ u.cell? ⟨w.heap.size + 1 + 1 + 1 + 1, 1, none⟩ = some (.slice Ne n.es.length ne)) w1.drew) := Lib.hid ⟨c3x, c3y, c4x, c4y⟩
  have HUP : Hid (∀ u u', (fun u : World => u.cell? ⟨w.heap.size + 1 + 1 + 1, 0, none⟩ = some (.slice Mn m.ns.length mn) ∧ u.cell? ⟨w.heap.size + 1 + 1 + 1, 1, none⟩ = some (.slice Me m.es.length me) ∧ u.cell? ⟨w.heap.size + 1 + 1 + 1 + 1, 0, none⟩ = some (.slice Nn n.ns.length nn) ∧ u.cell? ⟨w.heap.size + 1 + 1 + 1 + 1, 1, none⟩ = some (.slice Ne n.es.length ne)) u → Below u.heap.size u u' → (fun u : World => u.cell? ⟨w.heap.size + 1 + 1 + 1, 0, none⟩ = some (.slice Mn m.ns.length mn) ∧ u.cell? ⟨w.heap.size + 1 + 1 + 1, 1, none⟩ = some (.slice Me m.es.length me) ∧ u.cell? ⟨w.heap.size + 1 + 1 + 1 + 1, 0, none⟩ = some (.slice Nn n.ns.length nn) ∧ u.cell? ⟨w.heap.size + 1 + 1 + 1 + 1, 1, none⟩ = some (.slice Ne n.es.length ne)) u') := Lib.hid fun u u' h hb => ⟨cell_up hb (h.1), cell_up hb (h.2.1), cell_up hb (h.2.2.1), cell_up hb (h.2.2.2)⟩
  clear c0x c0y c1x c1y c2x c2y c3x c3y c4x c4y c5x c5y fr0 fr1
  refine wp_region_noPanic ?_
  refine wp_region_held_drew (S := (fun u : World => u.cell? ⟨w.heap.size + 1 + 1 + 1, 0, none⟩ = some (.slice Mn m.ns.length mn) ∧ u.cell? ⟨w.heap.size + 1 + 1 + 1, 1, none⟩ = some (.slice Me m.es.length me) ∧ u.cell? ⟨w.heap.size + 1 + 1 + 1 + 1, 0, none⟩ = some (.slice Nn n.ns.length nn) ∧ u.cell? ⟨w.heap.size + 1 + 1 + 1 + 1, 1, none⟩ = some (.slice Ne n.es.length ne))) (by kernel_rfl) (HS1.out) (fun hHeld => ?_)
  refine wpAnyH_take (i := 0) (v := ?_) (oper_at (r := _) rfl) (by kernel_rfl) (by kernel_rfl) (by kernel_rfl) (fun _ _ _ h => h) (Or.inl ⟨by rfl, ?_⟩) (by assumption) ?_
  rotate_left
  · intro w hSw; try dsimp only at hSw
    go_simp
    try with_reducible rfl
  try simp only [Act.put, List.setIfInBounds_toArray, List.set_cons_zero, List.set_cons_succ]
  refine wpAnyH_take (i := 1) (v := ?_) (oper_at (r := _) rfl) (by kernel_rfl) (by kernel_rfl) (by kernel_rfl) (fun _ _ _ h => h) (Or.inl ⟨by rfl, ?_⟩) (by assumption) ?_
  rotate_left
  · intro w hSw; try dsimp only at hSw
    go_simp
    try with_reducible rfl
  try simp only [Act.put, List.setIfInBounds_toArray, List.set_cons_zero, List.set_cons_succ]
  refine wpAnyH_take (i := 2) (v := ?_) (oper_at (r := _) rfl) (by kernel_rfl) (by kernel_rfl) (by kernel_rfl) (fun _ _ _ h => h) (Or.inl ⟨by rfl, ?_⟩) (by assumption) ?_
  rotate_left
  · intro w hSw; try dsimp only at hSw
    go_simp
    try with_reducible rfl
  try simp only [Act.put, List.setIfInBounds_toArray, List.set_cons_zero, List.set_cons_succ]
  refine wpAnyH_take (i := 3) (v := ?_) (oper_at (r := _) rfl) (by kernel_rfl) (by kernel_rfl) (by kernel_rfl) (fun _ _ _ h => h) (Or.inl ⟨by rfl, ?_⟩) (by assumption) ?_
  rotate_left
  · intro w hSw; try dsimp only at hSw
    go_simp
    try with_reducible rfl
  try simp only [Act.put, List.setIfInBounds_toArray, List.set_cons_zero, List.set_cons_succ]
  refine wpAnyH_take (i := 5) (v := ?_) (oper_at (r := _) rfl) (by kernel_rfl) (by kernel_rfl) (by kernel_rfl) (fun _ _ _ h => h) (Or.inl ⟨by rfl, ?_⟩) (by assumption) ?_
  rotate_left
  · intro w hSw; try dsimp only at hSw
    go_simp
    try with_reducible rfl
  try simp only [Act.put, List.setIfInBounds_toArray, List.set_cons_zero, List.set_cons_succ]
  refine wpAnyH_take (i := 6) (v := ?_) (oper_at (r := _) rfl) (by kernel_rfl) (by kernel_rfl) (by kernel_rfl) (fun _ _ _ h => h) (Or.inl ⟨by rfl, ?_⟩) (by assumption) ?_
  rotate_left
  · intro w hSw; try dsimp only at hSw
    go_simp
    try with_reducible rfl
  try simp only [Act.put, List.setIfInBounds_toArray, List.set_cons_zero, List.set_cons_succ]
  refine wpAnyH_take (i := 7) (v := ?_) (oper_at (r := _) rfl) (by kernel_rfl) (by kernel_rfl) (by kernel_rfl) (fun _ _ _ h => h) (Or.inl ⟨by rfl, ?_⟩) (by assumption) ?_
  rotate_left
  · intro w hSw; try dsimp only at hSw
    go_simp
    try with_reducible rfl
  try simp only [Act.put, List.setIfInBounds_toArray, List.set_cons_zero, List.set_cons_succ]
  refine wpAnyH_take (i := 8) (v := ?_) (oper_at (r := _) rfl) (by kernel_rfl) (by kernel_rfl) (by kernel_rfl) (fun _ _ _ h => h) (Or.inl ⟨by rfl, ?_⟩) (by assumption) ?_
  rotate_left
  · intro w hSw; try dsimp only at hSw
    go_simp
    try with_reducible rfl
  try simp only [Act.put, List.setIfInBounds_toArray, List.set_cons_zero, List.set_cons_succ]
  refine wpAnyH_ready (rs := [4]) (by kernel_rfl) (by simp) ?_
  refine AllReadyH.cons (oper_at (r := _) rfl) (fun K hK => ?_) AllReadyH.nil
  go_simp
  refine (HN1.out _ HSd.out.1).mono ?_
  rintro e w2 ⟨v2, rfl, ho2, hb2⟩
  have HS2 := Lib.hid (HUP.out _ _ HS1.out hb2)
  have HLE := Lib.hid hb2.size
  have HSR2 := Lib.hid (HSd.out.up hb2)
  have HO2 := Lib.hid ho2
  obtain ⟨A2, d2, rfl⟩ := OwnE.slice ho2
  clear ho2 hb2
  go_wp2_with fail
  refine hK.out _ _ (HS2.out) (fun _ => ?_)
  clear hK K
  try simp only [Act.put, List.setIfInBounds_toArray, List.set_cons_zero, List.set_cons_succ]
  refine wpAnyH_ready (rs := [9]) (by kernel_rfl) (by simp) ?_
  refine AllReadyH.cons (oper_at (r := _) rfl) (fun K hK => ?_) AllReadyH.nil
  go_simp
  refine (HN2.out _ HSR2.out.1).mono ?_
  rintro e w3 ⟨v3, rfl, ho3, hb3⟩
  have HS3 := Lib.hid (HUP.out _ _ HS2.out hb3)
  have HSR3 := Lib.hid (HSR2.out.up hb3)
  have HOO := Lib.hid (OwnE.below HO2.out hb3 (Nat.le_refl _))
  have HO3 := Lib.hid ho3
  obtain ⟨A3, d3, rfl⟩ := OwnE.slice ho3
  clear ho3 hb3 HO2
  go_wp2_with fail
  refine hK.out _ _ (HS3.out) (fun _ => ?_)
  clear hK K
  try simp only [Act.put, List.setIfInBounds_toArray, List.set_cons_zero, List.set_cons_succ]
  refine wpAnyH_take (i := 10) (v := ?_) (oper_at (r := _) rfl) (by kernel_rfl) (by kernel_rfl) (by kernel_rfl) (fun _ _ _ h => h) (Or.inl ⟨by rfl, ?_⟩) (by assumption) ?_
  rotate_left
  · intro w hSw; try dsimp only at hSw
    go_simp
    try with_reducible rfl
  try simp only [Act.put, List.setIfInBounds_toArray, List.set_cons_zero, List.set_cons_succ]
  obtain ⟨c5x, c5y⟩ := HSR3.out.cell (i := 5) rfl
  have fr0 := HSR3.out.free (i := 5) rfl 0
  have fr1 := HSR3.out.free (i := 5) rfl 1
  have HSZ := Lib.hid (HSR3.out.set (i := 5) rfl (.slice A2 L1.length d2) (.slice A3 L2.length d3))
  obtain ⟨z3x, z3y⟩ := HSZ.out.cell (i := 3) rfl
  obtain ⟨z4x, z4y⟩ := HSZ.out.cell (i := 4) rfl
  have HS4 : Hid ((fun u : World => u.cell? ⟨w.heap.size + 1 + 1 + 1, 0, none⟩ = some (.slice Mn m.ns.length mn) ∧ u.cell? ⟨w.heap.size + 1 + 1 + 1, 1, none⟩ = some (.slice Me m.es.length me) ∧ u.cell? ⟨w.heap.size + 1 + 1 + 1 + 1, 0, none⟩ = some (.slice Nn n.ns.length nn) ∧ u.cell? ⟨w.heap.size + 1 + 1 + 1 + 1, 1, none⟩ = some (.slice Ne n.es.length ne)) _) := Lib.hid ⟨z3x, z3y, z4x, z4y⟩
  clear z3x z3y z4x z4y
  refine wpAnyH_ready (rs := [11]) (by kernel_rfl) (by simp) ?_
  refine AllReadyH.cons (oper_at (r := _) rfl) (fun K hK => ?_) AllReadyH.nil
  go_simp
  refine hK.out _ _ (HS4.out) (fun _ => ?_)
  clear hK K
  try simp only [Act.put, List.setIfInBounds_toArray, List.set_cons_zero, List.set_cons_succ]
  refine wpAnyH_take (i := 12) (v := ?_) (oper_at (r := _) rfl) (by kernel_rfl) (by kernel_rfl) (by kernel_rfl) (fun _ _ _ h => h) (Or.inl ⟨by rfl, ?_⟩) (by assumption) ?_
  rotate_left
  · intro w hSw; try dsimp only at hSw
    go_simp
    try with_reducible rfl
  try simp only [Act.put, List.setIfInBounds_toArray, List.set_cons_zero, List.set_cons_succ]
  refine wpAnyH_done (by kernel_rfl) ?_ _
  refine NoPanic.normal ?_
  go_wp2_with fail
  obtain ⟨r0, r1⟩ := HSZ.out.cell (i := 5) rfl
  have hlt : w.heap.size + 5 < w1.heap.size := heap_lt (HS.out.2 5 _ rfl)
  have hsd := HSR2.out.1.size
  have hle : w1.drew.heap.size ≤ w2.heap.size := HLE.out
  refine bodyPost_ret (v := .tuple #[.agg #[.slice A2 L1.length d2, .slice A3 L2.length d3], .int .i64 0]) (by simp [results, Tryd.results25, go_sem, r0, r1]) rfl ?_
  have s1 : OwnI ((w3.setCell ⟨w.heap.size + 5, 0, none⟩ (.slice A2 L1.length d2)).setCell ⟨w.heap.size + 5, 1, none⟩ (.slice A3 L2.length d3)) _ _ _ := ownsRow_setCell_below (ownsRow_setCell_below HOO.out (by show w.heap.size + 5 < w1.heap.size; exact hlt) _) (by show w.heap.size + 5 < w1.heap.size; exact hlt) _
  have s2 : OwnI ((w3.setCell ⟨w.heap.size + 5, 0, none⟩ (.slice A2 L1.length d2)).setCell ⟨w.heap.size + 5, 1, none⟩ (.slice A3 L2.length d3)) _ _ _ := ownsRow_setCell_below (ownsRow_setCell_below HO3.out (by show w.heap.size + 5 < w2.heap.size; exact Nat.lt_of_lt_of_le hlt hle) _) (by show w.heap.size + 5 < w2.heap.size; exact Nat.lt_of_lt_of_le hlt hle) _
  exact ⟨⟨_, (by rw [HEE.out]; rfl), by rw [HR.out]; exact isM_of (g := ⟨L1, L2⟩) (isI_own s1) (isI_own s2)⟩, HSZ.out.1⟩

set_option maxRecDepth 100000 in
set_option maxHeartbeats 4000000 in
theorem injM_any (a b : Gr) (m : Mo) (An : Option Addr) (cn : Nat) (Ae : Option Addr) (ce : Nat) (Bn : Option Addr) (dn : Nat) (Be : Option Addr) (de : Nat) (Mn : Option Addr) (mn : Nat) (Me : Option Addr) (me : Nat) (w : World) (hTa : GrAt w An cn Ae ce a) (hTb : GrAt w Bn dn Be de b) (hm1 : Ints w w.heap.size Mn m.ns) (hm2 : Ints w w.heap.size Me m.es) (lm1 : m.ns.length ≤ 1000) (lm2 : m.es.length ≤ 1000) :
    Calls Tryd.prog 15 #[gval An a.ns.length cn Ae a.es.length ce, gval Bn b.ns.length dn Be b.es.length de, gval Mn m.ns.length mn Me m.es.length me] w fun e w' => e = .returned (.bool (injB a b m)) ∧ Below w.heap.size w w' := by
  have hS0 : SR w _ (((w.alloc (.cells #[.slice An a.ns.length cn, .slice Ae a.es.length ce] 25)).alloc (.cells #[.slice Bn b.ns.length dn, .slice Be b.es.length de] 25)).alloc (.cells #[.slice Mn m.ns.length mn, .slice Me m.es.length me] 27)) := SR.push (SR.push (SR.push (SR.nil w) rfl _ _ _) (by simp) _ _ _) (by simp) _ _ _
  have HV := Lib.hid (fun (u : World) (hu : Below w.heap.size w u) => validM_any a b m An cn Ae ce Bn dn Be de Mn mn Me me u (hTa.up hu) (hTb.up hu) (Reads.up hm1 hu) (Reads.up hm2 hu) lm1 lm2)
  have HC1 := Lib.hid (fun (u : World) (hu : Below w.heap.size w u) => countImages_any m.ns Mn mn u lm1 (Reads.up hm1 hu))
  have HC2 := Lib.hid (fun (u : World) (hu : Below w.heap.size w u) => countImages_any m.es Me me u lm2 (Reads.up hm2 hu))
  have HI := Lib.hid (injB_cnt a b m)
  have HS0 := Lib.hid hS0
  clear hTa hTb hm1 hm2 hS0
  generalize injB a b m = R at HI ⊢
  generalize morE a b m = z at *
  generalize cntS m.ns = k1 at *
  generalize cntS m.es = k2 at *
  go_enter Tryd.func15, Tryd.ntmps15
  go_wp2_with fail
  generalize hw1 : (((w.alloc (.cells #[.slice An a.ns.length cn, .slice Ae a.es.length ce] 25)).alloc (.cells #[.slice Bn b.ns.length dn, .slice Be b.es.length de] 25)).alloc (.cells #[.slice Mn m.ns.length mn, .slice Me m.es.length me] 27)) = w1 at *
  clear hw1
  have HSd : Hid (SR w _ w1.drew) := Lib.hid (HS0.out.up (below_d _))
  obtain ⟨c0x, c0y⟩ := HSd.out.cell (i := 0) rfl
  obtain ⟨c1x, c1y⟩ := HSd.out.cell (i := 1) rfl
  obtain ⟨c2x, c2y⟩ := HSd.out.cell (i := 2) rfl
  simp only [Nat.add_zero] at c0x c0y
  have HS1 : Hid ((fun u : World => u.cell? ⟨w.heap.size, 0, none⟩ = some (.slice An a.ns.length cn) ∧ u.cell? ⟨w.heap.size, 1, none⟩ = some (.slice Ae a.es.length ce) ∧ u.cell? ⟨w.heap.size + 1, 0, none⟩ = some (.slice Bn b.ns.length dn) ∧ u.cell? ⟨w.heap.size + 1, 1, none⟩ = some (.slice Be b.es.length de) ∧ u.cell? ⟨w.heap.size + 1 + 1, 0, none⟩ = some (.slice Mn m.ns.length mn) ∧ u.cell? ⟨w.heap.size + 1 + 1, 1, none⟩ = some (.slice Me m.es.length me)) w1.drew) := Lib.hid ⟨c0x, c0y, c1x, c1y, c2x, c2y⟩
  have HUP : Hid (∀ u u', (fun u : World => u.cell? ⟨w.heap.size, 0, none⟩ = some (.slice An a.ns.length cn) ∧ u.cell? ⟨w.heap.size, 1, none⟩ = some (.slice Ae a.es.length ce) ∧ u.cell? ⟨w.heap.size + 1, 0, none⟩ = some (.slice Bn b.ns.length dn) ∧ u.cell? ⟨w.heap.size + 1, 1, none⟩ = some (.slice Be b.es.length de) ∧ u.cell? ⟨w.heap.size + 1 + 1, 0, none⟩ = some (.slice Mn m.ns.length mn) ∧ u.cell? ⟨w.heap.size + 1 + 1, 1, none⟩ = some (.slice Me m.es.length me)) u → Below u.heap.size u u' → (fun u : World => u.cell? ⟨w.heap.size, 0, none⟩ = some (.slice An a.ns.length cn) ∧ u.cell? ⟨w.heap.size, 1, none⟩ = some (.slice Ae a.es.length ce) ∧ u.cell? ⟨w.heap.size + 1, 0, none⟩ = some (.slice Bn b.ns.length dn) ∧ u.cell? ⟨w.heap.size + 1, 1, none⟩ = some (.slice Be b.es.length de) ∧ u.cell? ⟨w.heap.size + 1 + 1, 0, none⟩ = some (.slice Mn m.ns.length mn) ∧ u.cell? ⟨w.heap.size + 1 + 1, 1, none⟩ = some (.slice Me m.es.length me)) u') := Lib.hid fun u u' h hb => ⟨cell_up hb (h.1), cell_up hb (h.2.1), cell_up hb (h.2.2.1), cell_up hb (h.2.2.2.1), cell_up hb (h.2.2.2.2.1), cell_up hb (h.2.2.2.2.2)⟩
  clear c0x c0y c1x c1y c2x c2y HS0
  refine wp_region_noPanic ?_
  refine wp_region_held_drew (S := (fun u : World => u.cell? ⟨w.heap.size, 0, none⟩ = some (.slice An a.ns.length cn) ∧ u.cell? ⟨w.heap.size, 1, none⟩ = some (.slice Ae a.es.length ce) ∧ u.cell? ⟨w.heap.size + 1, 0, none⟩ = some (.slice Bn b.ns.length dn) ∧ u.cell? ⟨w.heap.size + 1, 1, none⟩ = some (.slice Be b.es.length de) ∧ u.cell? ⟨w.heap.size + 1 + 1, 0, none⟩ = some (.slice Mn m.ns.length mn) ∧ u.cell? ⟨w.heap.size + 1 + 1, 1, none⟩ = some (.slice Me m.es.length me))) (by kernel_rfl) (HS1.out) (fun hHeld => ?_)
  refine wpAnyH_take (i := 0) (v := ?_) (oper_at (r := _) rfl) (by kernel_rfl) (by kernel_rfl) (by kernel_rfl) (fun _ _ _ h => h) (Or.inl ⟨by rfl, ?_⟩) (by assumption) ?_
  rotate_left
  · intro w hSw; try dsimp only at hSw
    go_simp
    try with_reducible rfl
  try simp only [Act.put, List.setIfInBounds_toArray, List.set_cons_zero, List.set_cons_succ]
  refine wpAnyH_take (i := 1) (v := ?_) (oper_at (r := _) rfl) (by kernel_rfl) (by kernel_rfl) (by kernel_rfl) (fun _ _ _ h => h) (Or.inl ⟨by rfl, ?_⟩) (by assumption) ?_
  rotate_left
  · intro w hSw; try dsimp only at hSw
    go_simp
    try with_reducible rfl
  try simp only [Act.put, List.setIfInBounds_toArray, List.set_cons_zero, List.set_cons_succ]
  refine wpAnyH_take (i := 2) (v := ?_) (oper_at (r := _) rfl) (by kernel_rfl) (by kernel_rfl) (by kernel_rfl) (fun _ _ _ h => h) (Or.inl ⟨by rfl, ?_⟩) (by assumption) ?_
  rotate_left
  · intro w hSw; try dsimp only at hSw
    go_simp
    try with_reducible rfl
  try simp only [Act.put, List.setIfInBounds_toArray, List.set_cons_zero, List.set_cons_succ]
  refine wpAnyH_ready (rs := [3]) (by kernel_rfl) (by simp) ?_
  refine AllReadyH.cons (oper_at (r := _) rfl) (fun K hK => ?_) AllReadyH.nil
  go_simp
  refine (HV.out _ HSd.out.1).mono ?_
  rintro e w2 ⟨rfl, hb2⟩
  have HS2 := Lib.hid (HUP.out _ _ HS1.out hb2)
  have HSR2 := Lib.hid (HSd.out.up hb2)
  clear hb2
  go_wp2_with fail
  refine hK.out _ _ (HS2.out) (fun _ => ?_)
  clear hK K
  try simp only [Act.put, List.setIfInBounds_toArray, List.set_cons_zero, List.set_cons_succ]
  by_cases hz : z = 0
  case neg =>
    have t1 : ((z : Int) == 0) = false := by simp; omega
    have HR := Lib.hid (show R = false by rw [HI.out, if_neg hz])
    clear hz
    refine wpAnyH_take (i := 4) (v := ?_) (oper_at (r := _) rfl) (by kernel_rfl) (by kernel_rfl) (by kernel_rfl) (fun _ _ _ h => h) (Or.inl ⟨by rfl, ?_⟩) (by assumption) ?_
    rotate_left
    · intro w hSw; try dsimp only at hSw
      go_simp
      try with_reducible rfl
    try simp only [Act.put, List.setIfInBounds_toArray, List.set_cons_zero, List.set_cons_succ]
    refine wpAnyH_take (i := 5) (v := ?_) (oper_at (r := _) rfl) (by kernel_rfl) (by kernel_rfl) (by kernel_rfl) (fun _ _ _ h => h) (Or.inl ⟨by rfl, ?_⟩) (by assumption) ?_
    rotate_left
    · intro w hSw; try dsimp only at hSw
      go_simp
      try with_reducible rfl
    try simp only [Act.put, List.setIfInBounds_toArray, List.set_cons_zero, List.set_cons_succ]
    refine wpAnyH_take (i := 6) (v := undef) (oper_at (r := _) rfl) (by kernel_rfl) (by kernel_rfl) (by kernel_rfl) (fun _ _ _ h => h) (Or.inr ⟨by rfl, rfl⟩) (by assumption) ?_
    try simp only [Act.put, List.setIfInBounds_toArray, List.set_cons_zero, List.set_cons_succ]
    refine wpAnyH_take (i := 7) (v := undef) (oper_at (r := _) rfl) (by kernel_rfl) (by kernel_rfl) (by kernel_rfl) (fun _ _ _ h => h) (Or.inr ⟨by rfl, rfl⟩) (by assumption) ?_
    try simp only [Act.put, List.setIfInBounds_toArray, List.set_cons_zero, List.set_cons_succ]
    refine wpAnyH_take (i := 9) (v := undef) (oper_at (r := _) rfl) (by kernel_rfl) (by kernel_rfl) (by kernel_rfl) (fun _ _ _ h => h) (Or.inr ⟨by rfl, rfl⟩) (by assumption) ?_
    try simp only [Act.put, List.setIfInBounds_toArray, List.set_cons_zero, List.set_cons_succ]
    refine wpAnyH_take (i := 10) (v := undef) (oper_at (r := _) rfl) (by kernel_rfl) (by kernel_rfl) (by kernel_rfl) (fun _ _ _ h => h) (Or.inr ⟨by rfl, rfl⟩) (by assumption) ?_
    try simp only [Act.put, List.setIfInBounds_toArray, List.set_cons_zero, List.set_cons_succ]
    refine wpAnyH_take (i := 11) (v := undef) (oper_at (r := _) rfl) (by kernel_rfl) (by kernel_rfl) (by kernel_rfl) (fun _ _ _ h => h) (Or.inr ⟨by rfl, rfl⟩) (by assumption) ?_
    try simp only [Act.put, List.setIfInBounds_toArray, List.set_cons_zero, List.set_cons_succ]
    refine wpAnyH_ready (rs := [8]) (by kernel_rfl) (by simp) ?_
    refine AllReadyH.cons (oper_at (r := _) rfl) (fun K hK => ?_) AllReadyH.nil
    rw [if_neg (by rw [show Region.wanted _ _ = false from rfl]; exact Bool.false_ne_true)]
    refine hK.out _ _ (HS2.out) (fun _ => ?_)
    clear hK K
    try simp only [Act.put, List.setIfInBounds_toArray, List.set_cons_zero, List.set_cons_succ]
    refine wpAnyH_take (i := 12) (v := undef) (oper_at (r := _) rfl) (by kernel_rfl) (by kernel_rfl) (by kernel_rfl) (fun _ _ _ h => h) (Or.inr ⟨by rfl, rfl⟩) (by assumption) ?_
    try simp only [Act.put, List.setIfInBounds_toArray, List.set_cons_zero, List.set_cons_succ]
    refine wpAnyH_take (i := 13) (v := ?_) (oper_at (r := _) rfl) (by kernel_rfl) (by kernel_rfl) (by kernel_rfl) (fun _ _ _ h => h) (Or.inl ⟨by rfl, ?_⟩) (by assumption) ?_
    rotate_left
    · intro w hSw; try dsimp only at hSw
      go_simp
      try with_reducible rfl
    try simp only [Act.put, List.setIfInBounds_toArray, List.set_cons_zero, List.set_cons_succ]
    refine wpAnyH_take (i := 14) (v := ?_) (oper_at (r := _) rfl) (by kernel_rfl) (by kernel_rfl) (by kernel_rfl) (fun _ _ _ h => h) (Or.inl ⟨by rfl, ?_⟩) (by assumption) ?_
    rotate_left
    · intro w hSw; try dsimp only at hSw
      go_simp
      try with_reducible rfl
    try simp only [Act.put, List.setIfInBounds_toArray, List.set_cons_zero, List.set_cons_succ]
    refine wpAnyH_take (i := 15) (v := undef) (oper_at (r := _) rfl) (by kernel_rfl) (by kernel_rfl) (by kernel_rfl) (fun _ _ _ h => h) (Or.inr ⟨by rfl, rfl⟩) (by assumption) ?_
    try simp only [Act.put, List.setIfInBounds_toArray, List.set_cons_zero, List.set_cons_succ]
    refine wpAnyH_take (i := 16) (v := undef) (oper_at (r := _) rfl) (by kernel_rfl) (by kernel_rfl) (by kernel_rfl) (fun _ _ _ h => h) (Or.inr ⟨by rfl, rfl⟩) (by assumption) ?_
    try simp only [Act.put, List.setIfInBounds_toArray, List.set_cons_zero, List.set_cons_succ]
    refine wpAnyH_take (i := 18) (v := undef) (oper_at (r := _) rfl) (by kernel_rfl) (by kernel_rfl) (by kernel_rfl) (fun _ _ _ h => h) (Or.inr ⟨by rfl, rfl⟩) (by assumption) ?_
    try simp only [Act.put, List.setIfInBounds_toArray, List.set_cons_zero, List.set_cons_succ]
    refine wpAnyH_take (i := 19) (v := undef) (oper_at (r := _) rfl) (by kernel_rfl) (by kernel_rfl) (by kernel_rfl) (fun _ _ _ h => h) (Or.inr ⟨by rfl, rfl⟩) (by assumption) ?_
    try simp only [Act.put, List.setIfInBounds_toArray, List.set_cons_zero, List.set_cons_succ]
    refine wpAnyH_take (i := 20) (v := undef) (oper_at (r := _) rfl) (by kernel_rfl) (by kernel_rfl) (by kernel_rfl) (fun _ _ _ h => h) (Or.inr ⟨by rfl, rfl⟩) (by assumption) ?_
    try simp only [Act.put, List.setIfInBounds_toArray, List.set_cons_zero, List.set_cons_succ]
    refine wpAnyH_ready (rs := [17]) (by kernel_rfl) (by simp) ?_
    refine AllReadyH.cons (oper_at (r := _) rfl) (fun K hK => ?_) AllReadyH.nil
    rw [if_neg (by rw [show Region.wanted _ _ = false from rfl]; exact Bool.false_ne_true)]
    refine hK.out _ _ (HS2.out) (fun _ => ?_)
    clear hK K
    try simp only [Act.put, List.setIfInBounds_toArray, List.set_cons_zero, List.set_cons_succ]
    refine wpAnyH_take (i := 21) (v := undef) (oper_at (r := _) rfl) (by kernel_rfl) (by kernel_rfl) (by kernel_rfl) (fun _ _ _ h => h) (Or.inr ⟨by rfl, rfl⟩) (by assumption) ?_
    try simp only [Act.put, List.setIfInBounds_toArray, List.set_cons_zero, List.set_cons_succ]
    refine wpAnyH_take (i := 22) (v := ?_) (oper_at (r := _) rfl) (by kernel_rfl) (by kernel_rfl) (by kernel_rfl) (fun _ _ _ h => h) (Or.inl ⟨by rfl, ?_⟩) (by assumption) ?_
    rotate_left
    · intro w hSw; try dsimp only at hSw
      go_simp
      try with_reducible rfl
    try simp only [Act.put, List.setIfInBounds_toArray, List.set_cons_zero, List.set_cons_succ]
    refine wpAnyH_take (i := 23) (v := ?_) (oper_at (r := _) rfl) (by kernel_rfl) (by kernel_rfl) (by kernel_rfl) (fun _ _ _ h => h) (Or.inl ⟨by rfl, ?_⟩) (by assumption) ?_
    rotate_left
    · intro w hSw; try dsimp only at hSw
      go_simp
      try with_reducible rfl
    try simp only [Act.put, List.setIfInBounds_toArray, List.set_cons_zero, List.set_cons_succ]
    refine wpAnyH_done (by kernel_rfl) ?_ _
    refine NoPanic.normal ?_
    go_wp2_with fail
    go_ret
    exact ⟨ret_bool (by rw [HR.out]), HSR2.out.1⟩
  subst hz
  have HX := Lib.hid (show R = (((k1 : Int) == (a.ns.length : Int)) && ((k2 : Int) == (a.es.length : Int))) by rw [HI.out, if_pos rfl])
  clear HI
  refine wpAnyH_take (i := 4) (v := ?_) (oper_at (r := _) rfl) (by kernel_rfl) (by kernel_rfl) (by kernel_rfl) (fun _ _ _ h => h) (Or.inl ⟨by rfl, ?_⟩) (by assumption) ?_
  rotate_left
  · intro w hSw; try dsimp only at hSw
    go_simp
    try with_reducible rfl
  try simp only [Act.put, List.setIfInBounds_toArray, List.set_cons_zero, List.set_cons_succ]
  refine wpAnyH_take (i := 5) (v := ?_) (oper_at (r := _) rfl) (by kernel_rfl) (by kernel_rfl) (by kernel_rfl) (fun _ _ _ h => h) (Or.inl ⟨by rfl, ?_⟩) (by assumption) ?_
  rotate_left
  · intro w hSw; try dsimp only at hSw
    go_simp
    try with_reducible rfl
  try simp only [Act.put, List.setIfInBounds_toArray, List.set_cons_zero, List.set_cons_succ]
  refine wpAnyH_take (i := 6) (v := ?_) (oper_at (r := _) rfl) (by kernel_rfl) (by kernel_rfl) (by kernel_rfl) (fun _ _ _ h => h) (Or.inl ⟨by rfl, ?_⟩) (by assumption) ?_
  rotate_left
  · intro w hSw; try dsimp only at hSw
    go_simp
    try with_reducible rfl
  try simp only [Act.put, List.setIfInBounds_toArray, List.set_cons_zero, List.set_cons_succ]
  refine wpAnyH_take (i := 7) (v := ?_) (oper_at (r := _) rfl) (by kernel_rfl) (by kernel_rfl) (by kernel_rfl) (fun _ _ _ h => h) (Or.inl ⟨by rfl, ?_⟩) (by assumption) ?_
  rotate_left
  · intro w hSw; try dsimp only at hSw
    go_simp
    try with_reducible rfl
  try simp only [Act.put, List.setIfInBounds_toArray, List.set_cons_zero, List.set_cons_succ]
  refine wpAnyH_take (i := 9) (v := ?_) (oper_at (r := _) rfl) (by kernel_rfl) (by kernel_rfl) (by kernel_rfl) (fun _ _ _ h => h) (Or.inl ⟨by rfl, ?_⟩) (by assumption) ?_
  rotate_left
  · intro w hSw; try dsimp only at hSw
    go_simp
    try with_reducible rfl
  try simp only [Act.put, List.setIfInBounds_toArray, List.set_cons_zero, List.set_cons_succ]
  refine wpAnyH_take (i := 10) (v := ?_) (oper_at (r := _) rfl) (by kernel_rfl) (by kernel_rfl) (by kernel_rfl) (fun _ _ _ h => h) (Or.inl ⟨by rfl, ?_⟩) (by assumption) ?_
  rotate_left
  · intro w hSw; try dsimp only at hSw
    go_simp
    try with_reducible rfl
  try simp only [Act.put, List.setIfInBounds_toArray, List.set_cons_zero, List.set_cons_succ]
  refine wpAnyH_take (i := 11) (v := ?_) (oper_at (r := _) rfl) (by kernel_rfl) (by kernel_rfl) (by kernel_rfl) (fun _ _ _ h => h) (Or.inl ⟨by rfl, ?_⟩) (by assumption) ?_
  rotate_left
  · intro w hSw; try dsimp only at hSw
    go_simp
    try with_reducible rfl
  try simp only [Act.put, List.setIfInBounds_toArray, List.set_cons_zero, List.set_cons_succ]
  refine wpAnyH_ready (rs := [8]) (by kernel_rfl) (by simp) ?_
  refine AllReadyH.cons (oper_at (r := _) rfl) (fun K hK => ?_) AllReadyH.nil
  go_simp
  refine (HC1.out _ HSR2.out.1).mono ?_
  rintro e w3 ⟨rfl, hb3⟩
  have HS3 := Lib.hid (HUP.out _ _ HS2.out hb3)
  have HSR3 := Lib.hid (HSR2.out.up hb3)
  clear hb3
  go_wp2_with fail
  refine hK.out _ _ (HS3.out) (fun _ => ?_)
  clear hK K
  try simp only [Act.put, List.setIfInBounds_toArray, List.set_cons_zero, List.set_cons_succ]
  cases ht : ((k1 : Int) == (a.ns.length : Int))
  case false =>
    have HR := Lib.hid (show R = false by rw [HX.out, ht]; rfl)
    refine wpAnyH_take (i := 12) (v := ?_) (oper_at (r := _) rfl) (by kernel_rfl) (by kernel_rfl) (by kernel_rfl) (fun _ _ _ h => h) (Or.inl ⟨by rfl, ?_⟩) (by assumption) ?_
    rotate_left
    · intro w hSw; try dsimp only at hSw
      go_simp
      try with_reducible rfl
    try simp only [Act.put, List.setIfInBounds_toArray, List.set_cons_zero, List.set_cons_succ]
    refine wpAnyH_take (i := 13) (v := ?_) (oper_at (r := _) rfl) (by kernel_rfl) (by kernel_rfl) (by kernel_rfl) (fun _ _ _ h => h) (Or.inl ⟨by rfl, ?_⟩) (by assumption) ?_
    rotate_left
    · intro w hSw; try dsimp only at hSw
      go_simp
      try with_reducible rfl
    try simp only [Act.put, List.setIfInBounds_toArray, List.set_cons_zero, List.set_cons_succ]
    refine wpAnyH_take (i := 14) (v := ?_) (oper_at (r := _) rfl) (by kernel_rfl) (by kernel_rfl) (by kernel_rfl) (fun _ _ _ h => h) (Or.inl ⟨by rfl, ?_⟩) (by assumption) ?_
    rotate_left
    · intro w hSw; try dsimp only at hSw
      go_simp
      try with_reducible rfl
    try simp only [Act.put, List.setIfInBounds_toArray, List.set_cons_zero, List.set_cons_succ]
    refine wpAnyH_take (i := 15) (v := undef) (oper_at (r := _) rfl) (by kernel_rfl) (by kernel_rfl) (by kernel_rfl) (fun _ _ _ h => h) (Or.inr ⟨by rfl, rfl⟩) (by assumption) ?_
    try simp only [Act.put, List.setIfInBounds_toArray, List.set_cons_zero, List.set_cons_succ]
    refine wpAnyH_take (i := 16) (v := undef) (oper_at (r := _) rfl) (by kernel_rfl) (by kernel_rfl) (by kernel_rfl) (fun _ _ _ h => h) (Or.inr ⟨by rfl, rfl⟩) (by assumption) ?_
    try simp only [Act.put, List.setIfInBounds_toArray, List.set_cons_zero, List.set_cons_succ]
    refine wpAnyH_take (i := 18) (v := undef) (oper_at (r := _) rfl) (by kernel_rfl) (by kernel_rfl) (by kernel_rfl) (fun _ _ _ h => h) (Or.inr ⟨by rfl, rfl⟩) (by assumption) ?_
    try simp only [Act.put, List.setIfInBounds_toArray, List.set_cons_zero, List.set_cons_succ]
    refine wpAnyH_take (i := 19) (v := undef) (oper_at (r := _) rfl) (by kernel_rfl) (by kernel_rfl) (by kernel_rfl) (fun _ _ _ h => h) (Or.inr ⟨by rfl, rfl⟩) (by assumption) ?_
    try simp only [Act.put, List.setIfInBounds_toArray, List.set_cons_zero, List.set_cons_succ]
    refine wpAnyH_take (i := 20) (v := undef) (oper_at (r := _) rfl) (by kernel_rfl) (by kernel_rfl) (by kernel_rfl) (fun _ _ _ h => h) (Or.inr ⟨by rfl, rfl⟩) (by assumption) ?_
    try simp only [Act.put, List.setIfInBounds_toArray, List.set_cons_zero, List.set_cons_succ]
    refine wpAnyH_ready (rs := [17]) (by kernel_rfl) (by simp) ?_
    refine AllReadyH.cons (oper_at (r := _) rfl) (fun K hK => ?_) AllReadyH.nil
    rw [if_neg (by rw [show Region.wanted _ _ = false from rfl]; exact Bool.false_ne_true)]
    refine hK.out _ _ (HS3.out) (fun _ => ?_)
    clear hK K
    try simp only [Act.put, List.setIfInBounds_toArray, List.set_cons_zero, List.set_cons_succ]
    refine wpAnyH_take (i := 21) (v := undef) (oper_at (r := _) rfl) (by kernel_rfl) (by kernel_rfl) (by kernel_rfl) (fun _ _ _ h => h) (Or.inr ⟨by rfl, rfl⟩) (by assumption) ?_
    try simp only [Act.put, List.setIfInBounds_toArray, List.set_cons_zero, List.set_cons_succ]
    refine wpAnyH_take (i := 22) (v := ?_) (oper_at (r := _) rfl) (by kernel_rfl) (by kernel_rfl) (by kernel_rfl) (fun _ _ _ h => h) (Or.inl ⟨by rfl, ?_⟩) (by assumption) ?_
    rotate_left
    · intro w hSw; try dsimp only at hSw
      go_simp
      try with_reducible rfl
    try simp only [Act.put, List.setIfInBounds_toArray, List.set_cons_zero, List.set_cons_succ]
    refine wpAnyH_take (i := 23) (v := ?_) (oper_at (r := _) rfl) (by kernel_rfl) (by kernel_rfl) (by kernel_rfl) (fun _ _ _ h => h) (Or.inl ⟨by rfl, ?_⟩) (by assumption) ?_
    rotate_left
    · intro w hSw; try dsimp only at hSw
      go_simp
      try with_reducible rfl
    try simp only [Act.put, List.setIfInBounds_toArray, List.set_cons_zero, List.set_cons_succ]
    refine wpAnyH_done (by kernel_rfl) ?_ _
    refine NoPanic.normal ?_
    go_wp2_with fail
    go_ret
    exact ⟨ret_bool (by rw [HR.out]), HSR3.out.1⟩
  have HX2 := Lib.hid (show R = ((k2 : Int) == (a.es.length : Int)) by rw [HX.out, ht]; rfl)
  clear HX
  refine wpAnyH_take (i := 12) (v := ?_) (oper_at (r := _) rfl) (by kernel_rfl) (by kernel_rfl) (by kernel_rfl) (fun _ _ _ h => h) (Or.inl ⟨by rfl, ?_⟩) (by assumption) ?_
  rotate_left
  · intro w hSw; try dsimp only at hSw
    go_simp
    try with_reducible rfl
  try simp only [Act.put, List.setIfInBounds_toArray, List.set_cons_zero, List.set_cons_succ]
  refine wpAnyH_take (i := 13) (v := ?_) (oper_at (r := _) rfl) (by kernel_rfl) (by kernel_rfl) (by kernel_rfl) (fun _ _ _ h => h) (Or.inl ⟨by rfl, ?_⟩) (by assumption) ?_
  rotate_left
  · intro w hSw; try dsimp only at hSw
    go_simp
    try with_reducible rfl
  try simp only [Act.put, List.setIfInBounds_toArray, List.set_cons_zero, List.set_cons_succ]
  refine wpAnyH_take (i := 14) (v := ?_) (oper_at (r := _) rfl) (by kernel_rfl) (by kernel_rfl) (by kernel_rfl) (fun _ _ _ h => h) (Or.inl ⟨by rfl, ?_⟩) (by assumption) ?_
  rotate_left
  · intro w hSw; try dsimp only at hSw
    go_simp
    try with_reducible rfl
  try simp only [Act.put, List.setIfInBounds_toArray, List.set_cons_zero, List.set_cons_succ]
  refine wpAnyH_take (i := 15) (v := ?_) (oper_at (r := _) rfl) (by kernel_rfl) (by kernel_rfl) (by kernel_rfl) (fun _ _ _ h => h) (Or.inl ⟨by rfl, ?_⟩) (by assumption) ?_
  rotate_left
  · intro w hSw; try dsimp only at hSw
    go_simp
    try with_reducible rfl
  try simp only [Act.put, List.setIfInBounds_toArray, List.set_cons_zero, List.set_cons_succ]
  refine wpAnyH_take (i := 16) (v := ?_) (oper_at (r := _) rfl) (by kernel_rfl) (by kernel_rfl) (by kernel_rfl) (fun _ _ _ h => h) (Or.inl ⟨by rfl, ?_⟩) (by assumption) ?_
  rotate_left
  · intro w hSw; try dsimp only at hSw
    go_simp
    try with_reducible rfl
  try simp only [Act.put, List.setIfInBounds_toArray, List.set_cons_zero, List.set_cons_succ]
  refine wpAnyH_take (i := 18) (v := ?_) (oper_at (r := _) rfl) (by kernel_rfl) (by kernel_rfl) (by kernel_rfl) (fun _ _ _ h => h) (Or.inl ⟨by rfl, ?_⟩) (by assumption) ?_
  rotate_left
  · intro w hSw; try dsimp only at hSw
    go_simp
    try with_reducible rfl
  try simp only [Act.put, List.setIfInBounds_toArray, List.set_cons_zero, List.set_cons_succ]
  refine wpAnyH_take (i := 19) (v := ?_) (oper_at (r := _) rfl) (by kernel_rfl) (by kernel_rfl) (by kernel_rfl) (fun _ _ _ h => h) (Or.inl ⟨by rfl, ?_⟩) (by assumption) ?_
  rotate_left
  · intro w hSw; try dsimp only at hSw
    go_simp
    try with_reducible rfl
  try simp only [Act.put, List.setIfInBounds_toArray, List.set_cons_zero, List.set_cons_succ]
  refine wpAnyH_take (i := 20) (v := ?_) (oper_at (r := _) rfl) (by kernel_rfl) (by kernel_rfl) (by kernel_rfl) (fun _ _ _ h => h) (Or.inl ⟨by rfl, ?_⟩) (by assumption) ?_
  rotate_left
  · intro w hSw; try dsimp only at hSw
    go_simp
    try with_reducible rfl
  try simp only [Act.put, List.setIfInBounds_toArray, List.set_cons_zero, List.set_cons_succ]
  refine wpAnyH_ready (rs := [17]) (by kernel_rfl) (by simp) ?_
  refine AllReadyH.cons (oper_at (r := _) rfl) (fun K hK => ?_) AllReadyH.nil
  go_simp
  refine (HC2.out _ HSR3.out.1).mono ?_
  rintro e w4 ⟨rfl, hb4⟩
  have HS4 := Lib.hid (HUP.out _ _ HS3.out hb4)
  have HSR4 := Lib.hid (HSR3.out.up hb4)
  clear hb4
  go_wp2_with fail
  refine hK.out _ _ (HS4.out) (fun _ => ?_)
  clear hK K
  try simp only [Act.put, List.setIfInBounds_toArray, List.set_cons_zero, List.set_cons_succ]
  refine wpAnyH_take (i := 21) (v := ?_) (oper_at (r := _) rfl) (by kernel_rfl) (by kernel_rfl) (by kernel_rfl) (fun _ _ _ h => h) (Or.inl ⟨by rfl, ?_⟩) (by assumption) ?_
  rotate_left
  · intro w hSw; try dsimp only at hSw
    go_simp
    try with_reducible rfl
  try simp only [Act.put, List.setIfInBounds_toArray, List.set_cons_zero, List.set_cons_succ]
  refine wpAnyH_take (i := 22) (v := ?_) (oper_at (r := _) rfl) (by kernel_rfl) (by kernel_rfl) (by kernel_rfl) (fun _ _ _ h => h) (Or.inl ⟨by rfl, ?_⟩) (by assumption) ?_
  rotate_left
  · intro w hSw; try dsimp only at hSw
    go_simp
    try with_reducible rfl
  try simp only [Act.put, List.setIfInBounds_toArray, List.set_cons_zero, List.set_cons_succ]
  refine wpAnyH_take (i := 23) (v := ?_) (oper_at (r := _) rfl) (by kernel_rfl) (by kernel_rfl) (by kernel_rfl) (fun _ _ _ h => h) (Or.inl ⟨by rfl, ?_⟩) (by assumption) ?_
  rotate_left
  · intro w hSw; try dsimp only at hSw
    go_simp
    try with_reducible rfl
  try simp only [Act.put, List.setIfInBounds_toArray, List.set_cons_zero, List.set_cons_succ]
  refine wpAnyH_done (by kernel_rfl) ?_ _
  refine NoPanic.normal ?_
  go_wp2_with fail
  go_ret
  exact ⟨ret_bool (by rw [HX2.out]), HSR4.out.1⟩

set_option maxRecDepth 100000 in
set_option maxHeartbeats 4000000 in
theorem surM_any (a b : Gr) (m : Mo) (An : Option Addr) (cn : Nat) (Ae : Option Addr) (ce : Nat) (Bn : Option Addr) (dn : Nat) (Be : Option Addr) (de : Nat) (Mn : Option Addr) (mn : Nat) (Me : Option Addr) (me : Nat) (w : World) (hTa : GrAt w An cn Ae ce a) (hTb : GrAt w Bn dn Be de b) (hm1 : Ints w w.heap.size Mn m.ns) (hm2 : Ints w w.heap.size Me m.es) (lm1 : m.ns.length ≤ 1000) (lm2 : m.es.length ≤ 1000) :
    Calls Tryd.prog 17 #[gval An a.ns.length cn Ae a.es.length ce, gval Bn b.ns.length dn Be b.es.length de, gval Mn m.ns.length mn Me m.es.length me] w fun e w' => e = .returned (.bool (surB a b m)) ∧ Below w.heap.size w w' := by
  have hS0 : SR w _ (((w.alloc (.cells #[.slice An a.ns.length cn, .slice Ae a.es.length ce] 25)).alloc (.cells #[.slice Bn b.ns.length dn, .slice Be b.es.length de] 25)).alloc (.cells #[.slice Mn m.ns.length mn, .slice Me m.es.length me] 27)) := SR.push (SR.push (SR.push (SR.nil w) rfl _ _ _) (by simp) _ _ _) (by simp) _ _ _
  have HV := Lib.hid (fun (u : World) (hu : Below w.heap.size w u) => validM_any a b m An cn Ae ce Bn dn Be de Mn mn Me me u (hTa.up hu) (hTb.up hu) (Reads.up hm1 hu) (Reads.up hm2 hu) lm1 lm2)
  have HC1 := Lib.hid (fun (u : World) (hu : Below w.heap.size w u) => countImages_any m.ns Mn mn u lm1 (Reads.up hm1 hu))
  have HC2 := Lib.hid (fun (u : World) (hu : Below w.heap.size w u) => countImages_any m.es Me me u lm2 (Reads.up hm2 hu))
  have HI := Lib.hid (surB_cnt a b m)
  have HS0 := Lib.hid hS0
  clear hTa hTb hm1 hm2 hS0
  generalize surB a b m = R at HI ⊢
  generalize morE a b m = z at *
  generalize cntS m.ns = k1 at *
  generalize cntS m.es = k2 at *
  go_enter Tryd.func17, Tryd.ntmps17
  go_wp2_with fail
  generalize hw1 : (((w.alloc (.cells #[.slice An a.ns.length cn, .slice Ae a.es.length ce] 25)).alloc (.cells #[.slice Bn b.ns.length dn, .slice Be b.es.length de] 25)).alloc (.cells #[.slice Mn m.ns.length mn, .slice Me m.es.length me] 27)) = w1 at *
  clear hw1
  have HSd : Hid (SR w _ w1.drew) := Lib.hid (HS0.out.up (below_d _))
  obtain ⟨c0x, c0y⟩ := HSd.out.cell (i := 0) rfl
  obtain ⟨c1x, c1y⟩ := HSd.out.cell (i := 1) rfl
  obtain ⟨c2x, c2y⟩ := HSd.out.cell (i := 2) rfl
  simp only [Nat.add_zero] at c0x c0y
  have HS1 : Hid ((fun u : World => u.cell? ⟨w.heap.size, 0, none⟩ = some (.slice An a.ns.length cn) ∧ u.cell? ⟨w.heap.size, 1, none⟩ = some (.slice Ae a.es.length ce) ∧ u.cell? ⟨w.heap.size + 1, 0, none⟩ = some (.slice Bn b.ns.length dn) ∧ u.cell? ⟨w.heap.size + 1, 1, none⟩ = some (.slice Be b.es.length de) ∧ u.cell? ⟨w.heap.size + 1 + 1, 0, none⟩ = some (.slice Mn m.ns.length mn) ∧ u.cell? ⟨w.heap.size + 1 + 1, 1, none⟩ = some (.slice Me m.es.length me)) w1.drew) := Lib.hid ⟨c0x, c0y, c1x, c1y, c2x, c2y⟩
  have HUP : Hid (∀ u u', (fun u : World => u.cell? ⟨w.heap.size, 0, none⟩ = some (.slice An a.ns.length cn) ∧ u.cell? ⟨w.heap.size, 1, none⟩ = some (.slice Ae a.es.length ce) ∧ u.cell? ⟨w.heap.size + 1, 0, none⟩ = some (.slice Bn b.ns.length dn) ∧ u.cell? ⟨w.heap.size + 1, 1, none⟩ = some (.slice Be b.es.length de) ∧ u.cell? ⟨w.heap.size + 1 + 1, 0, none⟩ = some (.slice Mn m.ns.length mn) ∧ u.cell? ⟨w.heap.size + 1 + 1, 1, none⟩ = some (.slice Me m.es.length me)) u → Below u.heap.size u u' → (fun u : World => u.cell? ⟨w.heap.size, 0, none⟩ = some (.slice An a.ns.length cn) ∧ u.cell? ⟨w.heap.size, 1, none⟩ = some (.slice Ae a.es.length ce) ∧ u.cell? ⟨w.heap.size + 1, 0, none⟩ = some (.slice Bn b.ns.length dn) ∧ u.cell? ⟨w.heap.size + 1, 1, none⟩ = some (.slice Be b.es.length de) ∧ u.cell? ⟨w.heap.size + 1 + 1, 0, none⟩ = some (.slice Mn m.ns.length mn) ∧ u.cell? ⟨w.heap.size + 1 + 1, 1, none⟩ = some (.slice Me m.es.length me)) u') := Lib.hid fun u u' h hb => ⟨cell_up hb (h.1), cell_up hb (h.2.1), cell_up hb (h.2.2.1), cell_up hb (h.2.2.2.1), cell_up hb (h.2.2.2.2.1), cell_up hb (h.2.2.2.2.2)⟩
  clear c0x c0y c1x c1y c2x c2y HS0
  refine wp_region_noPanic ?_
  refine wp_region_held_drew (S := (fun u : World => u.cell? ⟨w.heap.size, 0, none⟩ = some (.slice An a.ns.length cn) ∧ u.cell? ⟨w.heap.size, 1, none⟩ = some (.slice Ae a.es.length ce) ∧ u.cell? ⟨w.heap.size + 1, 0, none⟩ = some (.slice Bn b.ns.length dn) ∧ u.cell? ⟨w.heap.size + 1, 1, none⟩ = some (.slice Be b.es.length de) ∧ u.cell? ⟨w.heap.size + 1 + 1, 0, none⟩ = some (.slice Mn m.ns.length mn) ∧ u.cell? ⟨w.heap.size + 1 + 1, 1, none⟩ = some (.slice Me m.es.length me))) (by kernel_rfl) (HS1.out) (fun hHeld => ?_)
  refine wpAnyH_take (i := 0) (v := ?_) (oper_at (r := _) rfl) (by kernel_rfl) (by kernel_rfl) (by kernel_rfl) (fun _ _ _ h => h) (Or.inl ⟨by rfl, ?_⟩) (by assumption) ?_
  rotate_left
  · intro w hSw; try dsimp only at hSw
    go_simp
    try with_reducible rfl
  try simp only [Act.put, List.setIfInBounds_toArray, List.set_cons_zero, List.set_cons_succ]
  refine wpAnyH_take (i := 1) (v := ?_) (oper_at (r := _) rfl) (by kernel_rfl) (by kernel_rfl) (by kernel_rfl) (fun _ _ _ h => h) (Or.inl ⟨by rfl, ?_⟩) (by assumption) ?_
  rotate_left
  · intro w hSw; try dsimp only at hSw
    go_simp
    try with_reducible rfl
  try simp only [Act.put, List.setIfInBounds_toArray, List.set_cons_zero, List.set_cons_succ]
  refine wpAnyH_take (i := 2) (v := ?_) (oper_at (r := _) rfl) (by kernel_rfl) (by kernel_rfl) (by kernel_rfl) (fun _ _ _ h => h) (Or.inl ⟨by rfl, ?_⟩) (by assumption) ?_
  rotate_left
  · intro w hSw; try dsimp only at hSw
    go_simp
    try with_reducible rfl
  try simp only [Act.put, List.setIfInBounds_toArray, List.set_cons_zero, List.set_cons_succ]
  refine wpAnyH_ready (rs := [3]) (by kernel_rfl) (by simp) ?_
  refine AllReadyH.cons (oper_at (r := _) rfl) (fun K hK => ?_) AllReadyH.nil
  go_simp
  refine (HV.out _ HSd.out.1).mono ?_
  rintro e w2 ⟨rfl, hb2⟩
  have HS2 := Lib.hid (HUP.out _ _ HS1.out hb2)
  have HSR2 := Lib.hid (HSd.out.up hb2)
  clear hb2
  go_wp2_with fail
  refine hK.out _ _ (HS2.out) (fun _ => ?_)
  clear hK K
  try simp only [Act.put, List.setIfInBounds_toArray, List.set_cons_zero, List.set_cons_succ]
  by_cases hz : z = 0
  case neg =>
    have t1 : ((z : Int) == 0) = false := by simp; omega
    have HR := Lib.hid (show R = false by rw [HI.out, if_neg hz])
    clear hz
    refine wpAnyH_take (i := 4) (v := ?_) (oper_at (r := _) rfl) (by kernel_rfl) (by kernel_rfl) (by kernel_rfl) (fun _ _ _ h => h) (Or.inl ⟨by rfl, ?_⟩) (by assumption) ?_
    rotate_left
    · intro w hSw; try dsimp only at hSw
      go_simp
      try with_reducible rfl
    try simp only [Act.put, List.setIfInBounds_toArray, List.set_cons_zero, List.set_cons_succ]
    refine wpAnyH_take (i := 5) (v := ?_) (oper_at (r := _) rfl) (by kernel_rfl) (by kernel_rfl) (by kernel_rfl) (fun _ _ _ h => h) (Or.inl ⟨by rfl, ?_⟩) (by assumption) ?_
    rotate_left
    · intro w hSw; try dsimp only at hSw
      go_simp
      try with_reducible rfl
    try simp only [Act.put, List.setIfInBounds_toArray, List.set_cons_zero, List.set_cons_succ]
    refine wpAnyH_take (i := 6) (v := undef) (oper_at (r := _) rfl) (by kernel_rfl) (by kernel_rfl) (by kernel_rfl) (fun _ _ _ h => h) (Or.inr ⟨by rfl, rfl⟩) (by assumption) ?_
    try simp only [Act.put, List.setIfInBounds_toArray, List.set_cons_zero, List.set_cons_succ]
    refine wpAnyH_take (i := 7) (v := undef) (oper_at (r := _) rfl) (by kernel_rfl) (by kernel_rfl) (by kernel_rfl) (fun _ _ _ h => h) (Or.inr ⟨by rfl, rfl⟩) (by assumption) ?_
    try simp only [Act.put, List.setIfInBounds_toArray, List.set_cons_zero, List.set_cons_succ]
    refine wpAnyH_take (i := 9) (v := undef) (oper_at (r := _) rfl) (by kernel_rfl) (by kernel_rfl) (by kernel_rfl) (fun _ _ _ h => h) (Or.inr ⟨by rfl, rfl⟩) (by assumption) ?_
    try simp only [Act.put, List.setIfInBounds_toArray, List.set_cons_zero, List.set_cons_succ]
    refine wpAnyH_take (i := 10) (v := undef) (oper_at (r := _) rfl) (by kernel_rfl) (by kernel_rfl) (by kernel_rfl) (fun _ _ _ h => h) (Or.inr ⟨by rfl, rfl⟩) (by assumption) ?_
    try simp only [Act.put, List.setIfInBounds_toArray, List.set_cons_zero, List.set_cons_succ]
    refine wpAnyH_take (i := 11) (v := undef) (oper_at (r := _) rfl) (by kernel_rfl) (by kernel_rfl) (by kernel_rfl) (fun _ _ _ h => h) (Or.inr ⟨by rfl, rfl⟩) (by assumption) ?_
    try simp only [Act.put, List.setIfInBounds_toArray, List.set_cons_zero, List.set_cons_succ]
    refine wpAnyH_ready (rs := [8]) (by kernel_rfl) (by simp) ?_
    refine AllReadyH.cons (oper_at (r := _) rfl) (fun K hK => ?_) AllReadyH.nil
    rw [if_neg (by rw [show Region.wanted _ _ = false from rfl]; exact Bool.false_ne_true)]
    refine hK.out _ _ (HS2.out) (fun _ => ?_)
    clear hK K
    try simp only [Act.put, List.setIfInBounds_toArray, List.set_cons_zero, List.set_cons_succ]
    refine wpAnyH_take (i := 12) (v := undef) (oper_at (r := _) rfl) (by kernel_rfl) (by kernel_rfl) (by kernel_rfl) (fun _ _ _ h => h) (Or.inr ⟨by rfl, rfl⟩) (by assumption) ?_
    try simp only [Act.put, List.setIfInBounds_toArray, List.set_cons_zero, List.set_cons_succ]
    refine wpAnyH_take (i := 13) (v := ?_) (oper_at (r := _) rfl) (by kernel_rfl) (by kernel_rfl) (by kernel_rfl) (fun _ _ _ h => h) (Or.inl ⟨by rfl, ?_⟩) (by assumption) ?_
    rotate_left
    · intro w hSw; try dsimp only at hSw
      go_simp
      try with_reducible rfl
    try simp only [Act.put, List.setIfInBounds_toArray, List.set_cons_zero, List.set_cons_succ]
    refine wpAnyH_take (i := 14) (v := ?_) (oper_at (r := _) rfl) (by kernel_rfl) (by kernel_rfl) (by kernel_rfl) (fun _ _ _ h => h) (Or.inl ⟨by rfl, ?_⟩) (by assumption) ?_
    rotate_left
    · intro w hSw; try dsimp only at hSw
      go_simp
      try with_reducible rfl
    try simp only [Act.put, List.setIfInBounds_toArray, List.set_cons_zero, List.set_cons_succ]
    refine wpAnyH_take (i := 15) (v := undef) (oper_at (r := _) rfl) (by kernel_rfl) (by kernel_rfl) (by kernel_rfl) (fun _ _ _ h => h) (Or.inr ⟨by rfl, rfl⟩) (by assumption) ?_
    try simp only [Act.put, List.setIfInBounds_toArray, List.set_cons_zero, List.set_cons_succ]
    refine wpAnyH_take (i := 16) (v := undef) (oper_at (r := _) rfl) (by kernel_rfl) (by kernel_rfl) (by kernel_rfl) (fun _ _ _ h => h) (Or.inr ⟨by rfl, rfl⟩) (by assumption) ?_
    try simp only [Act.put, List.setIfInBounds_toArray, List.set_cons_zero, List.set_cons_succ]
    refine wpAnyH_take (i := 18) (v := undef) (oper_at (r := _) rfl) (by kernel_rfl) (by kernel_rfl) (by kernel_rfl) (fun _ _ _ h => h) (Or.inr ⟨by rfl, rfl⟩) (by assumption) ?_
    try simp only [Act.put, List.setIfInBounds_toArray, List.set_cons_zero, List.set_cons_succ]
    refine wpAnyH_take (i := 19) (v := undef) (oper_at (r := _) rfl) (by kernel_rfl) (by kernel_rfl) (by kernel_rfl) (fun _ _ _ h => h) (Or.inr ⟨by rfl, rfl⟩) (by assumption) ?_
    try simp only [Act.put, List.setIfInBounds_toArray, List.set_cons_zero, List.set_cons_succ]
    refine wpAnyH_take (i := 20) (v := undef) (oper_at (r := _) rfl) (by kernel_rfl) (by kernel_rfl) (by kernel_rfl) (fun _ _ _ h => h) (Or.inr ⟨by rfl, rfl⟩) (by assumption) ?_
    try simp only [Act.put, List.setIfInBounds_toArray, List.set_cons_zero, List.set_cons_succ]
    refine wpAnyH_ready (rs := [17]) (by kernel_rfl) (by simp) ?_
    refine AllReadyH.cons (oper_at (r := _) rfl) (fun K hK => ?_) AllReadyH.nil
    rw [if_neg (by rw [show Region.wanted _ _ = false from rfl]; exact Bool.false_ne_true)]
    refine hK.out _ _ (HS2.out) (fun _ => ?_)
    clear hK K
    try simp only [Act.put, List.setIfInBounds_toArray, List.set_cons_zero, List.set_cons_succ]
    refine wpAnyH_take (i := 21) (v := undef) (oper_at (r := _) rfl) (by kernel_rfl) (by kernel_rfl) (by kernel_rfl) (fun _ _ _ h => h) (Or.inr ⟨by rfl, rfl⟩) (by assumption) ?_
    try simp only [Act.put, List.setIfInBounds_toArray, List.set_cons_zero, List.set_cons_succ]
    refine wpAnyH_take (i := 22) (v := ?_) (oper_at (r := _) rfl) (by kernel_rfl) (by kernel_rfl) (by kernel_rfl) (fun _ _ _ h => h) (Or.inl ⟨by rfl, ?_⟩) (by assumption) ?_
    rotate_left
    · intro w hSw; try dsimp only at hSw
      go_simp
      try with_reducible rfl
    try simp only [Act.put, List.setIfInBounds_toArray, List.set_cons_zero, List.set_cons_succ]
    refine wpAnyH_take (i := 23) (v := ?_) (oper_at (r := _) rfl) (by kernel_rfl) (by kernel_rfl) (by kernel_rfl) (fun _ _ _ h => h) (Or.inl ⟨by rfl, ?_⟩) (by assumption) ?_
    rotate_left
    · intro w hSw; try dsimp only at hSw
      go_simp
      try with_reducible rfl
    try simp only [Act.put, List.setIfInBounds_toArray, List.set_cons_zero, List.set_cons_succ]
    refine wpAnyH_done (by kernel_rfl) ?_ _
    refine NoPanic.normal ?_
    go_wp2_with fail
    go_ret
    exact ⟨ret_bool (by rw [HR.out]), HSR2.out.1⟩
  subst hz
  have HX := Lib.hid (show R = (((k1 : Int) == (b.ns.length : Int)) && ((k2 : Int) == (b.es.length : Int))) by rw [HI.out, if_pos rfl])
  clear HI
  refine wpAnyH_take (i := 4) (v := ?_) (oper_at (r := _) rfl) (by kernel_rfl) (by kernel_rfl) (by kernel_rfl) (fun _ _ _ h => h) (Or.inl ⟨by rfl, ?_⟩) (by assumption) ?_
  rotate_left
  · intro w hSw; try dsimp only at hSw
    go_simp
    try with_reducible rfl
  try simp only [Act.put, List.setIfInBounds_toArray, List.set_cons_zero, List.set_cons_succ]
  refine wpAnyH_take (i := 5) (v := ?_) (oper_at (r := _) rfl) (by kernel_rfl) (by kernel_rfl) (by kernel_rfl) (fun _ _ _ h => h) (Or.inl ⟨by rfl, ?_⟩) (by assumption) ?_
  rotate_left
  · intro w hSw; try dsimp only at hSw
    go_simp
    try with_reducible rfl
  try simp only [Act.put, List.setIfInBounds_toArray, List.set_cons_zero, List.set_cons_succ]
  refine wpAnyH_take (i := 6) (v := ?_) (oper_at (r := _) rfl) (by kernel_rfl) (by kernel_rfl) (by kernel_rfl) (fun _ _ _ h => h) (Or.inl ⟨by rfl, ?_⟩) (by assumption) ?_
  rotate_left
  · intro w hSw; try dsimp only at hSw
    go_simp
    try with_reducible rfl
  try simp only [Act.put, List.setIfInBounds_toArray, List.set_cons_zero, List.set_cons_succ]
  refine wpAnyH_take (i := 7) (v := ?_) (oper_at (r := _) rfl) (by kernel_rfl) (by kernel_rfl) (by kernel_rfl) (fun _ _ _ h => h) (Or.inl ⟨by rfl, ?_⟩) (by assumption) ?_
  rotate_left
  · intro w hSw; try dsimp only at hSw
    go_simp
    try with_reducible rfl
  try simp only [Act.put, List.setIfInBounds_toArray, List.set_cons_zero, List.set_cons_succ]
  refine wpAnyH_take (i := 9) (v := ?_) (oper_at (r := _) rfl) (by kernel_rfl) (by kernel_rfl) (by kernel_rfl) (fun _ _ _ h => h) (Or.inl ⟨by rfl, ?_⟩) (by assumption) ?_
  rotate_left
  · intro w hSw; try dsimp only at hSw
    go_simp
    try with_reducible rfl
  try simp only [Act.put, List.setIfInBounds_toArray, List.set_cons_zero, List.set_cons_succ]
  refine wpAnyH_take (i := 10) (v := ?_) (oper_at (r := _) rfl) (by kernel_rfl) (by kernel_rfl) (by kernel_rfl) (fun _ _ _ h => h) (Or.inl ⟨by rfl, ?_⟩) (by assumption) ?_
  rotate_left
  · intro w hSw; try dsimp only at hSw
    go_simp
    try with_reducible rfl
  try simp only [Act.put, List.setIfInBounds_toArray, List.set_cons_zero, List.set_cons_succ]
  refine wpAnyH_take (i := 11) (v := ?_) (oper_at (r := _) rfl) (by kernel_rfl) (by kernel_rfl) (by kernel_rfl) (fun _ _ _ h => h) (Or.inl ⟨by rfl, ?_⟩) (by assumption) ?_
  rotate_left
  · intro w hSw; try dsimp only at hSw
    go_simp
    try with_reducible rfl
  try simp only [Act.put, List.setIfInBounds_toArray, List.set_cons_zero, List.set_cons_succ]
  refine wpAnyH_ready (rs := [8]) (by kernel_rfl) (by simp) ?_
  refine AllReadyH.cons (oper_at (r := _) rfl) (fun K hK => ?_) AllReadyH.nil
  go_simp
  refine (HC1.out _ HSR2.out.1).mono ?_
  rintro e w3 ⟨rfl, hb3⟩
  have HS3 := Lib.hid (HUP.out _ _ HS2.out hb3)
  have HSR3 := Lib.hid (HSR2.out.up hb3)
  clear hb3
  go_wp2_with fail
  refine hK.out _ _ (HS3.out) (fun _ => ?_)
  clear hK K
  try simp only [Act.put, List.setIfInBounds_toArray, List.set_cons_zero, List.set_cons_succ]
  cases ht : ((k1 : Int) == (b.ns.length : Int))
  case false =>
    have HR := Lib.hid (show R = false by rw [HX.out, ht]; rfl)
    refine wpAnyH_take (i := 12) (v := ?_) (oper_at (r := _) rfl) (by kernel_rfl) (by kernel_rfl) (by kernel_rfl) (fun _ _ _ h => h) (Or.inl ⟨by rfl, ?_⟩) (by assumption) ?_
    rotate_left
    · intro w hSw; try dsimp only at hSw
      go_simp
      try with_reducible rfl
    try simp only [Act.put, List.setIfInBounds_toArray, List.set_cons_zero, List.set_cons_succ]
    refine wpAnyH_take (i := 13) (v := ?_) (oper_at (r := _) rfl) (by kernel_rfl) (by kernel_rfl) (by kernel_rfl) (fun _ _ _ h => h) (Or.inl ⟨by rfl, ?_⟩) (by assumption) ?_
    rotate_left
    · intro w hSw; try dsimp only at hSw
      go_simp
      try with_reducible rfl
    try simp only [Act.put, List.setIfInBounds_toArray, List.set_cons_zero, List.set_cons_succ]
    refine wpAnyH_take (i := 14) (v := ?_) (oper_at (r := _) rfl) (by kernel_rfl) (by kernel_rfl) (by kernel_rfl) (fun _ _ _ h => h) (Or.inl ⟨by rfl, ?_⟩) (by assumption) ?_
    rotate_left
    · intro w hSw; try dsimp only at hSw
      go_simp
      try with_reducible rfl
    try simp only [Act.put, List.setIfInBounds_toArray, List.set_cons_zero, List.set_cons_succ]
    refine wpAnyH_take (i := 15) (v := undef) (oper_at (r := _) rfl) (by kernel_rfl) (by kernel_rfl) (by kernel_rfl) (fun _ _ _ h => h) (Or.inr ⟨by rfl, rfl⟩) (by assumption) ?_
    try simp only [Act.put, List.setIfInBounds_toArray, List.set_cons_zero, List.set_cons_succ]
    refine wpAnyH_take (i := 16) (v := undef) (oper_at (r := _) rfl) (by kernel_rfl) (by kernel_rfl) (by kernel_rfl) (fun _ _ _ h => h) (Or.inr ⟨by rfl, rfl⟩) (by assumption) ?_
    try simp only [Act.put, List.setIfInBounds_toArray, List.set_cons_zero, List.set_cons_succ]
    refine wpAnyH_take (i := 18) (v := undef) (oper_at (r := _) rfl) (by kernel_rfl) (by kernel_rfl) (by kernel_rfl) (fun _ _ _ h => h) (Or.inr ⟨by rfl, rfl⟩) (by assumption) ?_
    try simp only [Act.put, List.setIfInBounds_toArray, List.set_cons_zero, List.set_cons_succ]
    refine wpAnyH_take (i := 19) (v := undef) (oper_at (r := _) rfl) (by kernel_rfl) (by kernel_rfl) (by kernel_rfl) (fun _ _ _ h => h) (Or.inr ⟨by rfl, rfl⟩) (by assumption) ?_
    try simp only [Act.put, List.setIfInBounds_toArray, List.set_cons_zero, List.set_cons_succ]
    refine wpAnyH_take (i := 20) (v := undef) (oper_at (r := _) rfl) (by kernel_rfl) (by kernel_rfl) (by kernel_rfl) (fun _ _ _ h => h) (Or.inr ⟨by rfl, rfl⟩) (by assumption) ?_
    try simp only [Act.put, List.setIfInBounds_toArray, List.set_cons_zero, List.set_cons_succ]
    refine wpAnyH_ready (rs := [17]) (by kernel_rfl) (by simp) ?_
    refine AllReadyH.cons (oper_at (r := _) rfl) (fun K hK => ?_) AllReadyH.nil
    rw [if_neg (by rw [show Region.wanted _ _ = false from rfl]; exact Bool.false_ne_true)]
    refine hK.out _ _ (HS3.out) (fun _ => ?_)
    clear hK K
    try simp only [Act.put, List.setIfInBounds_toArray, List.set_cons_zero, List.set_cons_succ]
    refine wpAnyH_take (i := 21) (v := undef) (oper_at (r := _) rfl) (by kernel_rfl) (by kernel_rfl) (by kernel_rfl) (fun _ _ _ h => h) (Or.inr ⟨by rfl, rfl⟩) (by assumption) ?_
    try simp only [Act.put, List.setIfInBounds_toArray, List.set_cons_zero, List.set_cons_succ]
    refine wpAnyH_take (i := 22) (v := ?_) (oper_at (r := _) rfl) (by kernel_rfl) (by kernel_rfl) (by kernel_rfl) (fun _ _ _ h => h) (Or.inl ⟨by rfl, ?_⟩) (by assumption) ?_
    rotate_left
    · intro w hSw; try dsimp only at hSw
      go_simp
      try with_reducible rfl
    try simp only [Act.put, List.setIfInBounds_toArray, List.set_cons_zero, List.set_cons_succ]
    refine wpAnyH_take (i := 23) (v := ?_) (oper_at (r := _) rfl) (by kernel_rfl) (by kernel_rfl) (by kernel_rfl) (fun _ _ _ h => h) (Or.inl ⟨by rfl, ?_⟩) (by assumption) ?_
    rotate_left
    · intro w hSw; try dsimp only at hSw
      go_simp
      try with_reducible rfl
    try simp only [Act.put, List.setIfInBounds_toArray, List.set_cons_zero, List.set_cons_succ]
    refine wpAnyH_done (by kernel_rfl) ?_ _
    refine NoPanic.normal ?_
    go_wp2_with fail
    go_ret
    exact ⟨ret_bool (by rw [HR.out]), HSR3.out.1⟩
  have HX2 := Lib.hid (show R = ((k2 : Int) == (b.es.length : Int)) by rw [HX.out, ht]; rfl)
  clear HX
  refine wpAnyH_take (i := 12) (v := ?_) (oper_at (r := _) rfl) (by kernel_rfl) (by kernel_rfl) (by kernel_rfl) (fun _ _ _ h => h) (Or.inl ⟨by rfl, ?_⟩) (by assumption) ?_
  rotate_left
  · intro w hSw; try dsimp only at hSw
    go_simp
    try with_reducible rfl
  try simp only [Act.put, List.setIfInBounds_toArray, List.set_cons_zero, List.set_cons_succ]
  refine wpAnyH_take (i := 13) (v := ?_) (oper_at (r := _) rfl) (by kernel_rfl) (by kernel_rfl) (by kernel_rfl) (fun _ _ _ h => h) (Or.inl ⟨by rfl, ?_⟩) (by assumption) ?_
  rotate_left
  · intro w hSw; try dsimp only at hSw
    go_simp
    try with_reducible rfl
  try simp only [Act.put, List.setIfInBounds_toArray, List.set_cons_zero, List.set_cons_succ]
  refine wpAnyH_take (i := 14) (v := ?_) (oper_at (r := _) rfl) (by kernel_rfl) (by kernel_rfl) (by kernel_rfl) (fun _ _ _ h => h) (Or.inl ⟨by rfl, ?_⟩) (by assumption) ?_
  rotate_left
  · intro w hSw; try dsimp only at hSw
    go_simp
    try with_reducible rfl
  try simp only [Act.put, List.setIfInBounds_toArray, List.set_cons_zero, List.set_cons_succ]
  refine wpAnyH_take (i := 15) (v := ?_) (oper_at (r := _) rfl) (by kernel_rfl) (by kernel_rfl) (by kernel_rfl) (fun _ _ _ h => h) (Or.inl ⟨by rfl, ?_⟩) (by assumption) ?_
  rotate_left
  · intro w hSw; try dsimp only at hSw
    go_simp
    try with_reducible rfl
  try simp only [Act.put, List.setIfInBounds_toArray, List.set_cons_zero, List.set_cons_succ]
  refine wpAnyH_take (i := 16) (v := ?_) (oper_at (r := _) rfl) (by kernel_rfl) (by kernel_rfl) (by kernel_rfl) (fun _ _ _ h => h) (Or.inl ⟨by rfl, ?_⟩) (by assumption) ?_
  rotate_left
  · intro w hSw; try dsimp only at hSw
    go_simp
    try with_reducible rfl
  try simp only [Act.put, List.setIfInBounds_toArray, List.set_cons_zero, List.set_cons_succ]
  refine wpAnyH_take (i := 18) (v := ?_) (oper_at (r := _) rfl) (by kernel_rfl) (by kernel_rfl) (by kernel_rfl) (fun _ _ _ h => h) (Or.inl ⟨by rfl, ?_⟩) (by assumption) ?_
  rotate_left
  · intro w hSw; try dsimp only at hSw
    go_simp
    try with_reducible rfl
  try simp only [Act.put, List.setIfInBounds_toArray, List.set_cons_zero, List.set_cons_succ]
  refine wpAnyH_take (i := 19) (v := ?_) (oper_at (r := _) rfl) (by kernel_rfl) (by kernel_rfl) (by kernel_rfl) (fun _ _ _ h => h) (Or.inl ⟨by rfl, ?_⟩) (by assumption) ?_
  rotate_left
  · intro w hSw; try dsimp only at hSw
    go_simp
    try with_reducible rfl
  try simp only [Act.put, List.setIfInBounds_toArray, List.set_cons_zero, List.set_cons_succ]
  refine wpAnyH_take (i := 20) (v := ?_) (oper_at (r := _) rfl) (by kernel_rfl) (by kernel_rfl) (by kernel_rfl) (fun _ _ _ h => h) (Or.inl ⟨by rfl, ?_⟩) (by assumption) ?_
  rotate_left
  · intro w hSw; try dsimp only at hSw
    go_simp
    try with_reducible rfl
  try simp only [Act.put, List.setIfInBounds_toArray, List.set_cons_zero, List.set_cons_succ]
  refine wpAnyH_ready (rs := [17]) (by kernel_rfl) (by simp) ?_
  refine AllReadyH.cons (oper_at (r := _) rfl) (fun K hK => ?_) AllReadyH.nil
  go_simp
  refine (HC2.out _ HSR3.out.1).mono ?_
  rintro e w4 ⟨rfl, hb4⟩
  have HS4 := Lib.hid (HUP.out _ _ HS3.out hb4)
  have HSR4 := Lib.hid (HSR3.out.up hb4)
  clear hb4
  go_wp2_with fail
  refine hK.out _ _ (HS4.out) (fun _ => ?_)
  clear hK K
  try simp only [Act.put, List.setIfInBounds_toArray, List.set_cons_zero, List.set_cons_succ]
  refine wpAnyH_take (i := 21) (v := ?_) (oper_at (r := _) rfl) (by kernel_rfl) (by kernel_rfl) (by kernel_rfl) (fun _ _ _ h => h) (Or.inl ⟨by rfl, ?_⟩) (by assumption) ?_
  rotate_left
  · intro w hSw; try dsimp only at hSw
    go_simp
    try with_reducible rfl
  try simp only [Act.put, List.setIfInBounds_toArray, List.set_cons_zero, List.set_cons_succ]
  refine wpAnyH_take (i := 22) (v := ?_) (oper_at (r := _) rfl) (by kernel_rfl) (by kernel_rfl) (by kernel_rfl) (fun _ _ _ h => h) (Or.inl ⟨by rfl, ?_⟩) (by assumption) ?_
  rotate_left
  · intro w hSw; try dsimp only at hSw
    go_simp
    try with_reducible rfl
  try simp only [Act.put, List.setIfInBounds_toArray, List.set_cons_zero, List.set_cons_succ]
  refine wpAnyH_take (i := 23) (v := ?_) (oper_at (r := _) rfl) (by kernel_rfl) (by kernel_rfl) (by kernel_rfl) (fun _ _ _ h => h) (Or.inl ⟨by rfl, ?_⟩) (by assumption) ?_
  rotate_left
  · intro w hSw; try dsimp only at hSw
    go_simp
    try with_reducible rfl
  try simp only [Act.put, List.setIfInBounds_toArray, List.set_cons_zero, List.set_cons_succ]
  refine wpAnyH_done (by kernel_rfl) ?_ _
  refine NoPanic.normal ?_
  go_wp2_with fail
  go_ret
  exact ⟨ret_bool (by rw [HX2.out]), HSR4.out.1⟩

theorem iso_len {a b : Gr} {m : Mo} (h1 : injB a b m = true) (h2 : surB a b m = true) : m.ns.length = b.ns.length ∧ m.es.length = b.es.length := by
  obtain ⟨e, i1, i2⟩ := injB_iff.1 h1
  obtain ⟨_, s1, s2⟩ := surB_iff.1 h2
  have hk := mor_zero.1 e
  exact ⟨((cnt_nodup m.ns).2 i1).symm.trans ((cnt_cov m.ns _ hk.rn).2 s1), ((cnt_nodup m.es).2 i2).symm.trans ((cnt_cov m.es _ hk.re).2 s2)⟩
set_option maxRecDepth 100000 in
set_option maxHeartbeats 4000000 in
theorem inverseM_any (a b : Gr) (m : Mo) (An : Option Addr) (cn : Nat) (Ae : Option Addr) (ce : Nat) (Bn : Option Addr) (dn : Nat) (Be : Option Addr) (de : Nat) (Mn : Option Addr) (mn : Nat) (Me : Option Addr) (me : Nat) (w : World) (hTa : GrAt w An cn Ae ce a) (hTb : GrAt w Bn dn Be de b) (hm1 : Ints w w.heap.size Mn m.ns) (hm2 : Ints w w.heap.size Me m.es) (lm1 : m.ns.length ≤ 1000) (lm2 : m.es.length ≤ 1000) :
    Calls Tryd.prog 27 #[gval An a.ns.length cn Ae a.es.length ce, gval Bn b.ns.length dn Be b.es.length de, gval Mn m.ns.length mn Me m.es.length me] w fun e w' => (∃ v, e = .returned (.tuple #[v, .int .i64 (invE a b m : Int)]) ∧ IsM w' v (invR a b m)) ∧ Below w.heap.size w w' := by
  have hS0 : SR w _ ((((w.alloc (.cells #[.slice An a.ns.length cn, .slice Ae a.es.length ce] 25)).alloc (.cells #[.slice Bn b.ns.length dn, .slice Be b.es.length de] 25)).alloc (.cells #[.slice Mn m.ns.length mn, .slice Me m.es.length me] 27)).alloc (.cells #[.slice none 0 0, .slice none 0 0] 27)) := SR.push (SR.push (SR.push (SR.push (SR.nil w) rfl _ _ _) (by simp) _ _ _) (by simp) _ _ _) (by simp) _ _ _
  have HV := Lib.hid (validM_any a b m An cn Ae ce Bn dn Be de Mn mn Me me _ (hTa.up hS0.1) (hTb.up hS0.1) (Reads.up hm1 hS0.1) (Reads.up hm2 hS0.1) lm1 lm2)
  have HV2 := Lib.hid (fun (u : World) (hu : Below w.heap.size w u) => injM_any a b m An cn Ae ce Bn dn Be de Mn mn Me me u (hTa.up hu) (hTb.up hu) (Reads.up hm1 hu) (Reads.up hm2 hu) lm1 lm2)
  have HV3 := Lib.hid (fun (u : World) (hu : Below w.heap.size w u) => surM_any a b m An cn Ae ce Bn dn Be de Mn mn Me me u (hTa.up hu) (hTb.up hu) (Reads.up hm1 hu) (Reads.up hm2 hu) lm1 lm2)
  have HZ := Lib.hid (fun h1 h2 => iso_len (a := a) (b := b) (m := m) h1 h2)
  have HZ1 := Lib.hid (fun h => injB_iff (a := a) (b := b) (m := m).1 h)
  have HZ2 := Lib.hid (fun h => surB_iff (a := a) (b := b) (m := m).1 h)
  have HE : Hid (invE a b m = if morE a b m ≠ 0 then morE a b m else if injB a b m = true ∧ surB a b m = true then 0 else 10) := Lib.hid rfl
  have HI : Hid (invR a b m = if invE a b m = 0 then invM b m else noM) := Lib.hid rfl
  have HS0 := Lib.hid hS0
  have HF1 := Lib.hid (fun (hr : ∀ x ∈ m.ns, 0 ≤ x ∧ x < m.ns.length) (u : World) (hu : Below w.heap.size w u) => invert_any m.ns Mn mn u lm1 hr (Reads.up hm1 hu))
  have HF2 := Lib.hid (fun (hr : ∀ x ∈ m.es, 0 ≤ x ∧ x < m.es.length) (u : World) (hu : Below w.heap.size w u) => invert_any m.es Me me u lm2 hr (Reads.up hm2 hu))
  clear hTa hTb hm1 hm2 hS0
  generalize invR a b m = R at HI ⊢
  generalize invE a b m = E at *
  generalize hi : injB a b m = i at *
  generalize hs : surB a b m = j at *
  have HZ3 := Lib.hid (fun h => mor_zero (a := a) (b := b) (m := m).1 h)
  generalize morE a b m = z at *
  clear hi hs
  go_enter Tryd.func27, Tryd.ntmps27
  go_wp2_with fail
  refine HV.out.mono ?_
  rintro e w0 ⟨rfl, hb1⟩
  have HS := Lib.hid (HS0.out.up hb1)
  clear hb1 HS0 HV
  obtain ⟨c0x, c0y⟩ := HS.out.cell (i := 0) rfl
  obtain ⟨c1x, c1y⟩ := HS.out.cell (i := 1) rfl
  obtain ⟨c2x, c2y⟩ := HS.out.cell (i := 2) rfl
  obtain ⟨c3x, c3y⟩ := HS.out.cell (i := 3) rfl
  simp only [Nat.add_zero] at c0x c0y
  have fr0 := HS.out.free (i := 3) rfl 0
  have fr1 := HS.out.free (i := 3) rfl 1
  by_cases hz : z = 0
  case neg =>
    have t1 : ((z : Int) != 0) = true := by simp; omega
    have hE : E = z := by rw [HE.out, if_pos hz]
    have HEE := Lib.hid hE
    have HR := Lib.hid (show R = noM by rw [HI.out, if_neg (by rw [hE]; exact hz)])
    clear hz hE
    go_wp2_with fail
    have hS2 := HS.out.set (i := 3) rfl (.slice none 0 0) (.slice none 0 0)
    obtain ⟨r0, r1⟩ := hS2.cell (i := 3) rfl
    refine bodyPost_ret (v := .tuple #[gval none 0 0 none 0 0, .int .i64 ((z : Nat))]) (by simp [results, Tryd.results27, go_sem, r0, r1]) rfl ?_
    exact ⟨⟨_, by rw [HEE.out], by rw [HR.out]; exact isM_nil _⟩, hS2.1⟩
  subst hz
  have HK3 := Lib.hid (HZ3.out rfl)
  clear HZ3
  have HEE := Lib.hid (show E = if i = true ∧ j = true then 0 else 10 by rw [HE.out, if_neg (fun h => h rfl)])
  clear HE
  clear c0x c0y c1x c1y c2x c2y c3x c3y fr0 fr1
  obtain ⟨c0x, c0y⟩ := HS.out.cell (i := 0) rfl
  obtain ⟨c1x, c1y⟩ := HS.out.cell (i := 1) rfl
  obtain ⟨c2x, c2y⟩ := HS.out.cell (i := 2) rfl
  obtain ⟨c3x, c3y⟩ := HS.out.cell (i := 3) rfl
  simp only [Nat.add_zero] at c0x c0y
  go_wp2_with fail
  refine (HV2.out _ HS.out.1).mono ?_
  rintro e w1 ⟨rfl, hb1⟩
  clear c0x c0y c1x c1y c2x c2y c3x c3y
  have HS := Lib.hid (HS.out.up hb1)
  clear hb1 HV2
  obtain ⟨c0x, c0y⟩ := HS.out.cell (i := 0) rfl
  obtain ⟨c1x, c1y⟩ := HS.out.cell (i := 1) rfl
  obtain ⟨c2x, c2y⟩ := HS.out.cell (i := 2) rfl
  obtain ⟨c3x, c3y⟩ := HS.out.cell (i := 3) rfl
  simp only [Nat.add_zero] at c0x c0y
  have fr0 := HS.out.free (i := 3) rfl 0
  have fr1 := HS.out.free (i := 3) rfl 1
  cases i
  case false =>
    have hE : E = 10 := by rw [HEE.out, if_neg (by simp)]
    have HE2 := Lib.hid hE
    have HR := Lib.hid (show R = noM by rw [HI.out, if_neg (by rw [hE]; decide)])
    clear hE
    go_wp2_with fail
    have hS2 := HS.out.set (i := 3) rfl (.slice none 0 0) (.slice none 0 0)
    obtain ⟨r0, r1⟩ := hS2.cell (i := 3) rfl
    refine bodyPost_ret (v := .tuple #[gval none 0 0 none 0 0, .int .i64 (10)]) (by simp [results, Tryd.results27, go_sem, r0, r1]) rfl ?_
    exact ⟨⟨_, by rw [HE2.out]; rfl, by rw [HR.out]; exact isM_nil _⟩, hS2.1⟩
  clear c0x c0y c1x c1y c2x c2y c3x c3y fr0 fr1
  obtain ⟨c0x, c0y⟩ := HS.out.cell (i := 0) rfl
  obtain ⟨c1x, c1y⟩ := HS.out.cell (i := 1) rfl
  obtain ⟨c2x, c2y⟩ := HS.out.cell (i := 2) rfl
  obtain ⟨c3x, c3y⟩ := HS.out.cell (i := 3) rfl
  simp only [Nat.add_zero] at c0x c0y
  go_wp2_with fail
  refine (HV3.out _ HS.out.1).mono ?_
  rintro e w2 ⟨rfl, hb1⟩
  clear c0x c0y c1x c1y c2x c2y c3x c3y
  have HS := Lib.hid (HS.out.up hb1)
  clear hb1 HV3
  obtain ⟨w1, hw1⟩ : ∃ x, x = w2 := ⟨_, rfl⟩
  rw [← hw1] at HS ⊢
  clear hw1
  obtain ⟨c0x, c0y⟩ := HS.out.cell (i := 0) rfl
  obtain ⟨c1x, c1y⟩ := HS.out.cell (i := 1) rfl
  obtain ⟨c2x, c2y⟩ := HS.out.cell (i := 2) rfl
  obtain ⟨c3x, c3y⟩ := HS.out.cell (i := 3) rfl
  simp only [Nat.add_zero] at c0x c0y
  have fr0 := HS.out.free (i := 3) rfl 0
  have fr1 := HS.out.free (i := 3) rfl 1
  cases j
  case false =>
    have hE : E = 10 := by rw [HEE.out, if_neg (by simp)]
    have HE2 := Lib.hid hE
    have HR := Lib.hid (show R = noM by rw [HI.out, if_neg (by rw [hE]; decide)])
    clear hE
    go_wp2_with fail
    have hS2 := HS.out.set (i := 3) rfl (.slice none 0 0) (.slice none 0 0)
    obtain ⟨r0, r1⟩ := hS2.cell (i := 3) rfl
    refine bodyPost_ret (v := .tuple #[gval none 0 0 none 0 0, .int .i64 (10)]) (by simp [results, Tryd.results27, go_sem, r0, r1]) rfl ?_
    exact ⟨⟨_, by rw [HE2.out]; rfl, by rw [HR.out]; exact isM_nil _⟩, hS2.1⟩
  have hE : E = 0 := by rw [HEE.out, if_pos ⟨by trivial, by trivial⟩]
  have HE2 := Lib.hid hE
  obtain ⟨q1, q2⟩ := HZ.out (by trivial) (by trivial)
  obtain ⟨_, i1, i2⟩ := HZ1.out (by trivial)
  obtain ⟨_, j1, j2⟩ := HZ2.out (by trivial)
  have hk := HK3.out
  have HN1 := Lib.hid (HF1.out fun x hx => by rw [q1]; exact hk.rn x hx)
  have HN2 := Lib.hid (HF2.out fun x hx => by rw [q2]; exact hk.re x hx)
  have e1 : setS m.ns m.ns.length = backL m.ns b.ns.length := by rw [setS_back i1 (fun x hx => by rw [q1]; exact hk.rn x hx) (by rw [q1]; exact j1), q1]
  have e2 : setS m.es m.es.length = backL m.es b.es.length := by rw [setS_back i2 (fun x hx => by rw [q2]; exact hk.re x hx) (by rw [q2]; exact j2), q2]
  have HR : Hid (R = ⟨setS m.ns m.ns.length, setS m.es m.es.length⟩) := Lib.hid (by rw [HI.out, if_pos hE, e1, e2]; rfl)
  generalize setS m.ns m.ns.length = L1 at *
  generalize setS m.es m.es.length = L2 at *
  clear HZ HZ1 HZ2 HI HEE HF1 HF2 hE q1 q2 i1 i2 j1 j2 hk e1 e2
  go_wp2_with fail
  have HSd : Hid (SR w _ w1.drew) := Lib.hid (HS.out.up (below_d _))
  have HS1 : Hid ((fun u : World => u.cell? ⟨w.heap.size + 1 + 1, 0, none⟩ = some (.slice Mn m.ns.length mn) ∧ u.cell? ⟨w.heap.size + 1 + 1, 1, none⟩ = some (.slice Me m.es.length me)) w1.drew) := Lib.hid ⟨c2x, c2y⟩
  have HUP : Hid (∀ u u', (fun u : World => u.cell? ⟨w.heap.size + 1 + 1, 0, none⟩ = some (.slice Mn m.ns.length mn) ∧ u.cell? ⟨w.heap.size + 1 + 1, 1, none⟩ = some (.slice Me m.es.length me)) u → Below u.heap.size u u' → (fun u : World => u.cell? ⟨w.heap.size + 1 + 1, 0, none⟩ = some (.slice Mn m.ns.length mn) ∧ u.cell? ⟨w.heap.size + 1 + 1, 1, none⟩ = some (.slice Me m.es.length me)) u') := Lib.hid fun u u' h hb => ⟨cell_up hb (h.1), cell_up hb (h.2)⟩
  clear c0x c0y c1x c1y c2x c2y c3x c3y fr0 fr1
  refine wp_region_noPanic ?_
  refine wp_region_held_drew (S := (fun u : World => u.cell? ⟨w.heap.size + 1 + 1, 0, none⟩ = some (.slice Mn m.ns.length mn) ∧ u.cell? ⟨w.heap.size + 1 + 1, 1, none⟩ = some (.slice Me m.es.length me))) (by kernel_rfl) (HS1.out) (fun hHeld => ?_)
  refine wpAnyH_take (i := 0) (v := ?_) (oper_at (r := _) rfl) (by kernel_rfl) (by kernel_rfl) (by kernel_rfl) (fun _ _ _ h => h) (Or.inl ⟨by rfl, ?_⟩) (by assumption) ?_
  rotate_left
  · intro w hSw; try dsimp only at hSw
    go_simp
    try with_reducible rfl
  try simp only [Act.put, List.setIfInBounds_toArray, List.set_cons_zero, List.set_cons_succ]
  refine wpAnyH_take (i := 1) (v := ?_) (oper_at (r := _) rfl) (by kernel_rfl) (by kernel_rfl) (by kernel_rfl) (fun _ _ _ h => h) (Or.inl ⟨by rfl, ?_⟩) (by assumption) ?_
  rotate_left
  · intro w hSw; try dsimp only at hSw
    go_simp
    try with_reducible rfl
  try simp only [Act.put, List.setIfInBounds_toArray, List.set_cons_zero, List.set_cons_succ]
  refine wpAnyH_take (i := 3) (v := ?_) (oper_at (r := _) rfl) (by kernel_rfl) (by kernel_rfl) (by kernel_rfl) (fun _ _ _ h => h) (Or.inl ⟨by rfl, ?_⟩) (by assumption) ?_
  rotate_left
  · intro w hSw; try dsimp only at hSw
    go_simp
    try with_reducible rfl
  try simp only [Act.put, List.setIfInBounds_toArray, List.set_cons_zero, List.set_cons_succ]
  refine wpAnyH_take (i := 4) (v := ?_) (oper_at (r := _) rfl) (by kernel_rfl) (by kernel_rfl) (by kernel_rfl) (fun _ _ _ h => h) (Or.inl ⟨by rfl, ?_⟩) (by assumption) ?_
  rotate_left
  · intro w hSw; try dsimp only at hSw
    go_simp
    try with_reducible rfl
  try simp only [Act.put, List.setIfInBounds_toArray, List.set_cons_zero, List.set_cons_succ]
  refine wpAnyH_ready (rs := [2]) (by kernel_rfl) (by simp) ?_
  refine AllReadyH.cons (oper_at (r := _) rfl) (fun K hK => ?_) AllReadyH.nil
  go_simp
  refine (HN1.out _ HSd.out.1).mono ?_
  rintro e w2 ⟨v2, rfl, ho2, hb2⟩
  have HS2 := Lib.hid (HUP.out _ _ HS1.out hb2)
  have HLE := Lib.hid hb2.size
  have HSR2 := Lib.hid (HSd.out.up hb2)
  have HO2 := Lib.hid ho2
  obtain ⟨A2, d2, rfl⟩ := OwnE.slice ho2
  clear ho2 hb2
  go_wp2_with fail
  refine hK.out _ _ (HS2.out) (fun _ => ?_)
  clear hK K
  try simp only [Act.put, List.setIfInBounds_toArray, List.set_cons_zero, List.set_cons_succ]
  refine wpAnyH_ready (rs := [5]) (by kernel_rfl) (by simp) ?_
  refine AllReadyH.cons (oper_at (r := _) rfl) (fun K hK => ?_) AllReadyH.nil
  go_simp
  refine (HN2.out _ HSR2.out.1).mono ?_
  rintro e w3 ⟨v3, rfl, ho3, hb3⟩
  have HS3 := Lib.hid (HUP.out _ _ HS2.out hb3)
  have HSR3 := Lib.hid (HSR2.out.up hb3)
  have HOO := Lib.hid (OwnE.below HO2.out hb3 (Nat.le_refl _))
  have HO3 := Lib.hid ho3
  obtain ⟨A3, d3, rfl⟩ := OwnE.slice ho3
  clear ho3 hb3 HO2
  go_wp2_with fail
  refine hK.out _ _ (HS3.out) (fun _ => ?_)
  clear hK K
  try simp only [Act.put, List.setIfInBounds_toArray, List.set_cons_zero, List.set_cons_succ]
  refine wpAnyH_take (i := 6) (v := ?_) (oper_at (r := _) rfl) (by kernel_rfl) (by kernel_rfl) (by kernel_rfl) (fun _ _ _ h => h) (Or.inl ⟨by rfl, ?_⟩) (by assumption) ?_
  rotate_left
  · intro w hSw; try dsimp only at hSw
    go_simp
    try with_reducible rfl
  try simp only [Act.put, List.setIfInBounds_toArray, List.set_cons_zero, List.set_cons_succ]
  obtain ⟨c3x, c3y⟩ := HSR3.out.cell (i := 3) rfl
  have fr0 := HSR3.out.free (i := 3) rfl 0
  have fr1 := HSR3.out.free (i := 3) rfl 1
  have HSZ := Lib.hid (HSR3.out.set (i := 3) rfl (.slice A2 L1.length d2) (.slice A3 L2.length d3))
  obtain ⟨z2x, z2y⟩ := HSZ.out.cell (i := 2) rfl
  have HS4 : Hid ((fun u : World => u.cell? ⟨w.heap.size + 1 + 1, 0, none⟩ = some (.slice Mn m.ns.length mn) ∧ u.cell? ⟨w.heap.size + 1 + 1, 1, none⟩ = some (.slice Me m.es.length me)) _) := Lib.hid ⟨z2x, z2y⟩
  clear z2x z2y
  refine wpAnyH_ready (rs := [7]) (by kernel_rfl) (by simp) ?_
  refine AllReadyH.cons (oper_at (r := _) rfl) (fun K hK => ?_) AllReadyH.nil
  go_simp
  refine hK.out _ _ (HS4.out) (fun _ => ?_)
  clear hK K
  try simp only [Act.put, List.setIfInBounds_toArray, List.set_cons_zero, List.set_cons_succ]
  refine wpAnyH_take (i := 8) (v := ?_) (oper_at (r := _) rfl) (by kernel_rfl) (by kernel_rfl) (by kernel_rfl) (fun _ _ _ h => h) (Or.inl ⟨by rfl, ?_⟩) (by assumption) ?_
  rotate_left
  · intro w hSw; try dsimp only at hSw
    go_simp
    try with_reducible rfl
  try simp only [Act.put, List.setIfInBounds_toArray, List.set_cons_zero, List.set_cons_succ]
  refine wpAnyH_done (by kernel_rfl) ?_ _
  refine NoPanic.normal ?_
  go_wp2_with fail
  obtain ⟨r0, r1⟩ := HSZ.out.cell (i := 3) rfl
  have hlt : w.heap.size + 3 < w1.heap.size := heap_lt (HS.out.2 3 _ rfl)
  have hsd := HSR2.out.1.size
  have hle : w1.drew.heap.size ≤ w2.heap.size := HLE.out
  refine bodyPost_ret (v := .tuple #[.agg #[.slice A2 L1.length d2, .slice A3 L2.length d3], .int .i64 0]) (by simp [results, Tryd.results27, go_sem, r0, r1]) rfl ?_
  have s1 : OwnI ((w3.setCell ⟨w.heap.size + 3, 0, none⟩ (.slice A2 L1.length d2)).setCell ⟨w.heap.size + 3, 1, none⟩ (.slice A3 L2.length d3)) _ _ _ := ownsRow_setCell_below (ownsRow_setCell_below HOO.out (by show w.heap.size + 3 < w1.heap.size; exact hlt) _) (by show w.heap.size + 3 < w1.heap.size; exact hlt) _
  have s2 : OwnI ((w3.setCell ⟨w.heap.size + 3, 0, none⟩ (.slice A2 L1.length d2)).setCell ⟨w.heap.size + 3, 1, none⟩ (.slice A3 L2.length d3)) _ _ _ := ownsRow_setCell_below (ownsRow_setCell_below HO3.out (by show w.heap.size + 3 < w2.heap.size; exact Nat.lt_of_lt_of_le hlt hle) _) (by show w.heap.size + 3 < w2.heap.size; exact Nat.lt_of_lt_of_le hlt hle) _
  exact ⟨⟨_, (by rw [HE2.out]; rfl), by rw [HR.out]; exact isM_of (g := ⟨L1, L2⟩) (isI_own s1) (isI_own s2)⟩, HSZ.out.1⟩

end Go.Proofs.YtaeelanbkdkppaaDoor

/-
  Graphs: checkAscending, ascending, places.
-/
namespace Go.Proofs.YtaeelanbkdkppaaDoor
open Go.RowKit

theorem asc_six {l : List Int} {n k : Nat} (h : idxB (l.getD k 0) n = false) : ascAt l n k = 6 := if_pos h
theorem asc_twelve {l : List Int} {n k : Nat} (h : idxB (l.getD k 0) n = true) (h2 : 0 < k) (h3 : l.getD k 0 ≤ l.getD (k - 1) 0) : ascAt l n k = 12 := by
  unfold ascAt
  rw [if_neg (by rw [h]; simp), if_pos ⟨h2, h3⟩]
theorem asc_pass {l : List Int} {n k : Nat} (h : idxB (l.getD k 0) n = true) (h2 : ¬ (0 < k ∧ l.getD k 0 ≤ l.getD (k - 1) 0)) : ascAt l n k = 0 := by
  unfold ascAt
  rw [if_neg (by rw [h]; simp), if_neg h2]

end Go.Proofs.YtaeelanbkdkppaaDoor

/-
  Graphs, the program: checkRemove.
-/
namespace Go.Proofs.YtaeelanbkdkppaaDoor
open Go.RowKit

theorem dang_and (g : Gr) (vs xs : List Int) (i : Nat) : dangAt g vs xs i = if (!decide ((i : Int) ∈ xs)) && (decide ((g.es.getD i default).fr ∈ vs) || decide ((g.es.getD i default).tq ∈ vs)) then 14 else 0 := rfl

end Go.Proofs.YtaeelanbkdkppaaDoor

/-
  Graphs, the program: Remove.
-/
namespace Go.Proofs.YtaeelanbkdkppaaDoor
open Go.RowKit

def RemC (f : FuncId) : Prop := ∀ (g : Gr) (vs xs : List Int) (An : Option Addr) (cn : Nat) (Ae : Option Addr) (ce : Nat) (Av Ax : Option Addr) (cv cx : Nat) (w : World), vs.length ≤ 1000 → xs.length ≤ 1000 → GrAt w An cn Ae ce g → Ints w w.heap.size Av vs → Ints w w.heap.size Ax xs →
  Calls Tryd.prog f #[gval An g.ns.length cn Ae g.es.length ce, .slice Av vs.length cv, .slice Ax xs.length cx] w fun e w' => (∃ v u, e = .returned (.tuple #[v, u, .int .i64 (remE g vs xs : Nat)]) ∧ IsG w' v (remG g vs xs) ∧ IsM w' u (remM g vs xs)) ∧ Below w.heap.size w w'

end Go.Proofs.YtaeelanbkdkppaaDoor
