import Derived.Test.YtaeelanbkdkppaaDoorZ15
import Derived.Test.YtaeelanbkdkppaaDoorChecked
import Derived.Test.YtaeelanbkdkppaaDoorRows
import Derived.Test.YtaeelanbkdkppaaDoorTie
import Derived.Test.YtaeelanbkdkppaaDoorCards
import Derived.SizedLaws
/-
  MorphismSame. Printed by mkl6.py.
-/
namespace Go.Proofs.YtaeelanbkdkppaaDoor
open Go.RowKit Go.Shelf

set_option maxRecDepth 100000 in
set_option maxHeartbeats 4000000 in
theorem lawSame (a : Gr) (An : Option Addr) (cn : Nat) (Ae : Option Addr) (ce : Nat) (m : Mo) (Mn : Option Addr) (mn : Nat) (Me : Option Addr) (me : Nat) (n : Mo) (Nn : Option Addr) (nn : Nat) (Ne : Option Addr) (ne : Nat) (w : World) (h00 : 0 < w.heap.size) (hT : TabW w) (hTa : GrAt w An cn Ae ce a)
    (hm1 : Ints w w.heap.size Mn m.ns) (hm2 : Ints w w.heap.size Me m.es) (lm1 : m.ns.length ≤ 1152921504606846976) (lm2 : m.es.length ≤ 1152921504606846976) (hn1 : Ints w w.heap.size Nn n.ns) (hn2 : Ints w w.heap.size Ne n.es) (ln1 : n.ns.length ≤ 1152921504606846976) (ln2 : n.es.length ≤ 1152921504606846976) :
    Calls Tryd.prog 4 #[gval An a.ns.length cn Ae a.es.length ce, gval Mn m.ns.length mn Me m.es.length me, gval Nn n.ns.length nn Ne n.es.length ne] w fun e w' => e = .returned (.bool true) ∧ Below w.heap.size w w' := by
  have HAW := Lib.hid (awk h00 hT)
  have HFG := Lib.hid (fun (u : World) (hu : Below w.heap.size w u) => few_any a An cn Ae ce u (hTa.up hu))
  have HFM := Lib.hid (fun u => fewM_any m 140 Mn mn Me me u lm1 lm2)
  have HFN := Lib.hid (fun u => fewM_any n 140 Nn nn Ne ne u ln1 ln2)
  have HQ : Hid (fewM m 140 = true → m.ns.length ≤ 1000 ∧ m.es.length ≤ 1000) := Lib.hid fewM_len
  have HIM := Lib.hid (fun (u : World) (hu : Below w.heap.size w u) => givesM (identM_any a An cn Ae ce u (hTa.up hu)))
  have HIR := Lib.hid (fun (u : World) (hu : Below w.heap.size w u) => givesM (identR_any a An cn Ae ce u (hTa.up hu)))
  have HSM := Lib.hid (fun (l1 : m.ns.length ≤ 1000) (l2 : m.es.length ≤ 1000) (u : World) (hu : Below w.heap.size w u) => sameMo_any m n Mn mn Me me Nn nn Ne ne u (by unfold maxLen; omega) (by unfold maxLen; omega) (Reads.up hm1 hu) (Reads.up hm2 hu) (Reads.up hn1 hu) (Reads.up hn2 hu))
  have HSR := Lib.hid (fun (l1 : m.ns.length ≤ 1000) (l2 : m.es.length ≤ 1000) (u : World) (hu : Below w.heap.size w u) => sameR6_any m n Mn mn Me me Nn nn Ne ne u (by unfold maxLen; omega) (by unfold maxLen; omega) (Reads.up hm1 hu) (Reads.up hm2 hu) (Reads.up hn1 hu) (Reads.up hn2 hu))
  have HSC := Lib.hid (fun (l1 : m.ns.length ≤ 1000) (l2 : m.es.length ≤ 1000) (u : World) (hu : Below w.heap.size w u) Xn xn Xe xe (r1 : Ints u u.heap.size Xn m.ns) (r2 : Ints u u.heap.size Xe m.es) => sameM_refl m Mn mn Me me Xn xn Xe xe u (by unfold maxLen; omega) (Reads.up hm1 hu) (Reads.up hm2 hu) r1 r2)
  have HCP := Lib.hid (fun (l1 : m.ns.length ≤ 1000) (l2 : m.es.length ≤ 1000) (u : World) (hu : Below w.heap.size w u) => copied2 m Mn mn Me me u (Reads.up hm1 hu) (Reads.up hm2 hu) l1 l2)
  have HS0 : Hid (SV w [([.slice An a.ns.length cn, .slice Ae a.es.length ce], 25), ([.slice Mn m.ns.length mn, .slice Me m.es.length me], 27), ([.slice Nn n.ns.length nn, .slice Ne n.es.length ne], 27)] _) := Lib.hid (SV.push (SV.push (SV.push (SV.nil w) rfl [.slice An a.ns.length cn, .slice Ae a.es.length ce] 25) (by simp) [.slice Mn m.ns.length mn, .slice Me m.es.length me] 27) (by simp) [.slice Nn n.ns.length nn, .slice Ne n.es.length ne] 27)
  clear hT h00 hTa hm1 hm2 hn1 hn2 lm1 lm2 ln1 ln2
  generalize idR a = R at *
  generalize validE a = E at *
  generalize fewB a = Q1 at *
  generalize fewM m 140 = Q2 at *
  generalize fewM n 140 = Q3 at *
  generalize decide (m = n) = D at *
  go_enter Tryd.func4, Tryd.ntmps4
  go_wp2_with fail
  refine (HAW.out _ HS0.out.1).mono ?_
  rintro e w1 ⟨rfl, hb1⟩
  have HS1 := Lib.hid (HS0.out.up hb1)
  clear hb1 HS0
  have c0 := HS1.out.cell (i := 0) (j := 0) rfl rfl
  have c1 := HS1.out.cell (i := 0) (j := 1) rfl rfl
  simp only [Nat.add_zero] at c0 c1
  go_wp2_with fail
  refine (HFG.out _ HS1.out.1).mono ?_
  rintro e w2 ⟨rfl, hb2⟩
  have HS2 := Lib.hid (HS1.out.up hb2)
  clear hb2 HS1 c0 c1
  cases Q1
  · skip
    go_wp2_with fail
    refine (HAW.out _ HS2.out.1).mono ?_
    rintro e w9 ⟨rfl, hb9⟩
    go_wp2_with fail
    go_ret
    exact ⟨rfl, HS2.out.1.trans (hb9.mono HS2.out.1.size)⟩
  have d0 := HS2.out.cell (i := 1) (j := 0) rfl rfl
  have d1 := HS2.out.cell (i := 1) (j := 1) rfl rfl
  go_wp2_with fail
  refine (HFM.out _).mono ?_
  rintro e w3 ⟨rfl, hb3⟩
  have HS3 := Lib.hid (HS2.out.up hb3)
  clear hb3 HS2 d0 d1
  cases hQ : Q2
  · clear hQ
    go_wp2_with fail
    refine (HAW.out _ HS3.out.1).mono ?_
    rintro e w9 ⟨rfl, hb9⟩
    go_wp2_with fail
    go_ret
    exact ⟨rfl, HS3.out.1.trans (hb9.mono HS3.out.1.size)⟩
  have d0 := HS3.out.cell (i := 2) (j := 0) rfl rfl
  have d1 := HS3.out.cell (i := 2) (j := 1) rfl rfl
  obtain ⟨l1, l2⟩ := HQ.out hQ
  have HSM := Lib.hid (HSM.out l1 l2)
  have HSR := Lib.hid (HSR.out l1 l2)
  have HSC := Lib.hid (HSC.out l1 l2)
  have HCP := Lib.hid (HCP.out l1 l2)
  clear hQ HQ l1 l2
  go_wp2_with fail
  refine (HFN.out _).mono ?_
  rintro e w4 ⟨rfl, hb4⟩
  have HS4 := Lib.hid (HS3.out.up hb4)
  clear hb4 HS3 d0 d1
  cases Q3
  · skip
    go_wp2_with fail
    refine (HAW.out _ HS4.out.1).mono ?_
    rintro e w9 ⟨rfl, hb9⟩
    go_wp2_with fail
    go_ret
    exact ⟨rfl, HS4.out.1.trans (hb9.mono HS4.out.1.size)⟩
  clear HAW HFG HFM HFN
  have c0 := HS4.out.cell (i := 0) (j := 0) rfl rfl
  have c1 := HS4.out.cell (i := 0) (j := 1) rfl rfl
  simp only [Nat.add_zero] at c0 c1
  go_wp2_with fail
  refine (HIM.out _ HS4.out.1).mono ?_
  rintro e v1 ⟨⟨X1, x1, Y1, y1, rfl, r1, r2, r3, r4⟩, hb⟩
  have SV_v1 := Lib.hid (HS4.out.up hb)
  clear HS4
  have R1_v1 := Lib.hid r1
  have R2_v1 := Lib.hid r2
  have HL := Lib.hid (And.intro r3 r4)
  clear r1 r2 r3 r4 hb c0 c1
  go_upto_region 4 with fail
  have hb : Below v1.heap.size v1 (v1.alloc (.cells #[.slice X1 R.ns.length x1, .slice Y1 R.es.length y1] 27)) := (Below.refl _ _).alloc (Nat.le_refl _) _
  have hx : BX v1.heap.size (.slice X1 R.ns.length x1) (.slice Y1 R.es.length y1) 27 (v1.alloc (.cells #[.slice X1 R.ns.length x1, .slice Y1 R.es.length y1] 27)) := heap_alloc_new _ _
  have SV_V1 := Lib.hid (SV_v1.out.up hb)
  have R11_V1 := Lib.hid (Reads.up R1_v1.out hb)
  have R21_V1 := Lib.hid (Reads.up R2_v1.out hb)
  clear SV_v1 R1_v1 R2_v1
  have B1_V1 := Lib.hid hx
  clear hb hx
  generalize v1.alloc (.cells #[.slice X1 R.ns.length x1, .slice Y1 R.es.length y1] 27) = V1 at *
  generalize v1.heap.size = gx at *
  have c0 := SV_V1.out.cell (i := 0) (j := 0) rfl rfl
  have c1 := SV_V1.out.cell (i := 0) (j := 1) rfl rfl
  simp only [Nat.add_zero] at c0 c1
  go_wp2_with fail
  refine (HIR.out _ SV_V1.out.1).mono ?_
  rintro e v2 ⟨⟨X2, x2, Y2, y2, rfl, r1, r2, r3, r4⟩, hb⟩
  have SV_v2 := Lib.hid (SV_V1.out.up hb)
  have R11_v2 := Lib.hid (Reads.up R11_V1.out hb)
  have R21_v2 := Lib.hid (Reads.up R21_V1.out hb)
  have B1_v2 := Lib.hid (B1_V1.out.up hb)
  clear SV_V1 R11_V1 R21_V1 B1_V1
  have R1_v2 := Lib.hid r1
  have R2_v2 := Lib.hid r2
  have HL := Lib.hid (And.intro r3 r4)
  clear r1 r2 r3 r4 hb c0 c1
  go_upto_region 5 with fail
  have hb : Below v2.heap.size v2 (v2.alloc (.cells #[.slice X2 R.ns.length x2, .slice Y2 R.es.length y2] 27)) := (Below.refl _ _).alloc (Nat.le_refl _) _
  have hx : BX v2.heap.size (.slice X2 R.ns.length x2) (.slice Y2 R.es.length y2) 27 (v2.alloc (.cells #[.slice X2 R.ns.length x2, .slice Y2 R.es.length y2] 27)) := heap_alloc_new _ _
  have SV_V2 := Lib.hid (SV_v2.out.up hb)
  have R11_V2 := Lib.hid (Reads.up R11_v2.out hb)
  have R21_V2 := Lib.hid (Reads.up R21_v2.out hb)
  have B1_V2 := Lib.hid (B1_v2.out.up hb)
  have R12_V2 := Lib.hid (Reads.up R1_v2.out hb)
  have R22_V2 := Lib.hid (Reads.up R2_v2.out hb)
  clear SV_v2 R11_v2 R21_v2 B1_v2 R1_v2 R2_v2
  have B2_V2 := Lib.hid hx
  clear hb hx
  generalize v2.alloc (.cells #[.slice X2 R.ns.length x2, .slice Y2 R.es.length y2] 27) = V2 at *
  generalize v2.heap.size = gy at *
  clear HIM HIR
  go_wp2_with fail
  have SV_wf := Lib.hid (SV_V2.out.up (below_d V2))
  have R11_wf := Lib.hid (Reads.up R11_V2.out (below_d V2))
  have R21_wf := Lib.hid (Reads.up R21_V2.out (below_d V2))
  have B1_wf := Lib.hid (B1_V2.out.up (below_d V2))
  have R12_wf := Lib.hid (Reads.up R12_V2.out (below_d V2))
  have R22_wf := Lib.hid (Reads.up R22_V2.out (below_d V2))
  have B2_wf := Lib.hid (B2_V2.out.up (below_d V2))
  clear SV_V2 R11_V2 R21_V2 B1_V2 R12_V2 R22_V2 B2_V2
  have q0 : V2.drew.cell? ⟨gx, 0, none⟩ = some (.slice X1 R.ns.length x1) := B1_wf.out.cells.1
  have q1 : V2.drew.cell? ⟨gx, 1, none⟩ = some (.slice Y1 R.es.length y1) := B1_wf.out.cells.2
  have q2 : V2.drew.cell? ⟨gy, 0, none⟩ = some (.slice X2 R.ns.length x2) := B2_wf.out.cells.1
  have q3 : V2.drew.cell? ⟨gy, 1, none⟩ = some (.slice Y2 R.es.length y2) := B2_wf.out.cells.2
  have q4 : V2.drew.cell? ⟨w.heap.size + 1, 0, none⟩ = some (.slice Mn m.ns.length mn) := SV_wf.out.cell (i := 1) (j := 0) rfl rfl
  have q5 : V2.drew.cell? ⟨w.heap.size + 1, 1, none⟩ = some (.slice Me m.es.length me) := SV_wf.out.cell (i := 1) (j := 1) rfl rfl
  have q6 : V2.drew.cell? ⟨w.heap.size + 1 + 1, 0, none⟩ = some (.slice Nn n.ns.length nn) := SV_wf.out.cell (i := 2) (j := 0) rfl rfl
  have q7 : V2.drew.cell? ⟨w.heap.size + 1 + 1, 1, none⟩ = some (.slice Ne n.es.length ne) := SV_wf.out.cell (i := 2) (j := 1) rfl rfl
  have HM_wf : Hid (∀ u, Below V2.drew.heap.size V2.drew u → (fun u : World => u.cell? ⟨gx, 0, none⟩ = some (.slice X1 R.ns.length x1) ∧ u.cell? ⟨gx, 1, none⟩ = some (.slice Y1 R.es.length y1) ∧ u.cell? ⟨gy, 0, none⟩ = some (.slice X2 R.ns.length x2) ∧ u.cell? ⟨gy, 1, none⟩ = some (.slice Y2 R.es.length y2) ∧ u.cell? ⟨w.heap.size + 1, 0, none⟩ = some (.slice Mn m.ns.length mn) ∧ u.cell? ⟨w.heap.size + 1, 1, none⟩ = some (.slice Me m.es.length me) ∧ u.cell? ⟨w.heap.size + 1 + 1, 0, none⟩ = some (.slice Nn n.ns.length nn) ∧ u.cell? ⟨w.heap.size + 1 + 1, 1, none⟩ = some (.slice Ne n.es.length ne)) u) := Lib.hid fun u hb => ⟨cell_up hb q0, cell_up hb q1, cell_up hb q2, cell_up hb q3, cell_up hb q4, cell_up hb q5, cell_up hb q6, cell_up hb q7⟩
  clear q0 q1 q2 q3 q4 q5 q6 q7
  have WD_wf := Lib.hid (Below.refl V2.drew.heap.size V2.drew)
  refine wp_region_noPanic ?_
  refine wp_region_held_drew (S := (fun u : World => u.cell? ⟨gx, 0, none⟩ = some (.slice X1 R.ns.length x1) ∧ u.cell? ⟨gx, 1, none⟩ = some (.slice Y1 R.es.length y1) ∧ u.cell? ⟨gy, 0, none⟩ = some (.slice X2 R.ns.length x2) ∧ u.cell? ⟨gy, 1, none⟩ = some (.slice Y2 R.es.length y2) ∧ u.cell? ⟨w.heap.size + 1, 0, none⟩ = some (.slice Mn m.ns.length mn) ∧ u.cell? ⟨w.heap.size + 1, 1, none⟩ = some (.slice Me m.es.length me) ∧ u.cell? ⟨w.heap.size + 1 + 1, 0, none⟩ = some (.slice Nn n.ns.length nn) ∧ u.cell? ⟨w.heap.size + 1 + 1, 1, none⟩ = some (.slice Ne n.es.length ne))) (by kernel_rfl) (HM_wf.out _ WD_wf.out) (fun hHeld => ?_)
  generalize V2.drew = wf at *
  refine wpAnyH_take (i := 0) (v := ?_) (oper_at (r := _) rfl) (by kernel_rfl) (by kernel_rfl) (by kernel_rfl) (fun _ _ _ h => h) (Or.inl ⟨by rfl, ?_⟩) (by assumption) ?_
  rotate_left
  · intro w hSw; try dsimp only at hSw
    go_simp
    try with_reducible rfl
  try simp only [Act.put, List.setIfInBounds_toArray, List.set_cons_zero, List.set_cons_succ]
  refine wpAnyH_take (i := 1) (v := ?_) (oper_at (r := _) rfl) (by kernel_rfl) (by kernel_rfl) (by kernel_rfl) (fun _ _ _ h => h) (Or.inl ⟨by rfl, ?_⟩) (by assumption) ?_
  rotate_left
  · intro w hSw; try dsimp only at hSw
    go_simp
    try with_reducible rfl
  try simp only [Act.put, List.setIfInBounds_toArray, List.set_cons_zero, List.set_cons_succ]
  refine wpAnyH_take (i := 2) (v := ?_) (oper_at (r := _) rfl) (by kernel_rfl) (by kernel_rfl) (by kernel_rfl) (fun _ _ _ h => h) (Or.inl ⟨by rfl, ?_⟩) (by assumption) ?_
  rotate_left
  · intro w hSw; try dsimp only at hSw
    go_simp
    try with_reducible rfl
  try simp only [Act.put, List.setIfInBounds_toArray, List.set_cons_zero, List.set_cons_succ]
  refine wpAnyH_take (i := 3) (v := ?_) (oper_at (r := _) rfl) (by kernel_rfl) (by kernel_rfl) (by kernel_rfl) (fun _ _ _ h => h) (Or.inl ⟨by rfl, ?_⟩) (by assumption) ?_
  rotate_left
  · intro w hSw; try dsimp only at hSw
    go_simp
    try with_reducible rfl
  try simp only [Act.put, List.setIfInBounds_toArray, List.set_cons_zero, List.set_cons_succ]
  refine wpAnyH_take (i := 4) (v := ?_) (oper_at (r := _) rfl) (by kernel_rfl) (by kernel_rfl) (by kernel_rfl) (fun _ _ _ h => h) (Or.inl ⟨by rfl, ?_⟩) (by assumption) ?_
  rotate_left
  · intro w hSw; try dsimp only at hSw
    go_simp
    try with_reducible rfl
  try simp only [Act.put, List.setIfInBounds_toArray, List.set_cons_zero, List.set_cons_succ]
  refine wpAnyH_take (i := 5) (v := ?_) (oper_at (r := _) rfl) (by kernel_rfl) (by kernel_rfl) (by kernel_rfl) (fun _ _ _ h => h) (Or.inl ⟨by rfl, ?_⟩) (by assumption) ?_
  rotate_left
  · intro w hSw; try dsimp only at hSw
    go_simp
    try with_reducible rfl
  try simp only [Act.put, List.setIfInBounds_toArray, List.set_cons_zero, List.set_cons_succ]
  refine wpAnyH_ready (rs := [6]) (by kernel_rfl) (by simp) ?_
  refine AllReadyH.cons (oper_at (r := _) rfl) (fun K hK => ?_) AllReadyH.nil
  go_simp
  refine (sameR_refl R X1 x1 Y1 y1 X2 x2 Y2 y2 _ HL.out R11_wf.out R21_wf.out R12_wf.out R22_wf.out).mono ?_
  rintro e W1 ⟨rfl, hb⟩
  have SV_W1 := Lib.hid (SV_wf.out.up hb)
  have R11_W1 := Lib.hid (Reads.up R11_wf.out hb)
  have R21_W1 := Lib.hid (Reads.up R21_wf.out hb)
  have B1_W1 := Lib.hid (B1_wf.out.up hb)
  have R12_W1 := Lib.hid (Reads.up R12_wf.out hb)
  have R22_W1 := Lib.hid (Reads.up R22_wf.out hb)
  have B2_W1 := Lib.hid (B2_wf.out.up hb)
  have WD_W1 := Lib.hid (WD_wf.out.trans (hb.mono WD_wf.out.size))
  clear SV_wf R11_wf R21_wf B1_wf R12_wf R22_wf B2_wf WD_wf
  clear hb 
  go_wp2_with fail
  refine hK.out _ _ (HM_wf.out _ WD_W1.out) (fun _ => ?_)
  clear hK K
  try simp only [Act.put, List.setIfInBounds_toArray, List.set_cons_zero, List.set_cons_succ]
  refine wpAnyH_take (i := 7) (v := ?_) (oper_at (r := _) rfl) (by kernel_rfl) (by kernel_rfl) (by kernel_rfl) (fun _ _ _ h => h) (Or.inl ⟨by rfl, ?_⟩) (by assumption) ?_
  rotate_left
  · intro w hSw; try dsimp only at hSw
    go_simp
    try with_reducible rfl
  try simp only [Act.put, List.setIfInBounds_toArray, List.set_cons_zero, List.set_cons_succ]
  refine wpAnyH_take (i := 8) (v := ?_) (oper_at (r := _) rfl) (by kernel_rfl) (by kernel_rfl) (by kernel_rfl) (fun _ _ _ h => h) (Or.inl ⟨by rfl, ?_⟩) (by assumption) ?_
  rotate_left
  · intro w hSw; try dsimp only at hSw
    go_simp
    try with_reducible rfl
  try simp only [Act.put, List.setIfInBounds_toArray, List.set_cons_zero, List.set_cons_succ]
  refine wpAnyH_take (i := 9) (v := ?_) (oper_at (r := _) rfl) (by kernel_rfl) (by kernel_rfl) (by kernel_rfl) (fun _ _ _ h => h) (Or.inl ⟨by rfl, ?_⟩) (by assumption) ?_
  rotate_left
  · intro w hSw; try dsimp only at hSw
    go_simp
    try with_reducible rfl
  try simp only [Act.put, List.setIfInBounds_toArray, List.set_cons_zero, List.set_cons_succ]
  refine wpAnyH_take (i := 10) (v := ?_) (oper_at (r := _) rfl) (by kernel_rfl) (by kernel_rfl) (by kernel_rfl) (fun _ _ _ h => h) (Or.inl ⟨by rfl, ?_⟩) (by assumption) ?_
  rotate_left
  · intro w hSw; try dsimp only at hSw
    go_simp
    try with_reducible rfl
  try simp only [Act.put, List.setIfInBounds_toArray, List.set_cons_zero, List.set_cons_succ]
  refine wpAnyH_take (i := 12) (v := ?_) (oper_at (r := _) rfl) (by kernel_rfl) (by kernel_rfl) (by kernel_rfl) (fun _ _ _ h => h) (Or.inl ⟨by rfl, ?_⟩) (by assumption) ?_
  rotate_left
  · intro w hSw; try dsimp only at hSw
    go_simp
    try with_reducible rfl
  try simp only [Act.put, List.setIfInBounds_toArray, List.set_cons_zero, List.set_cons_succ]
  refine wpAnyH_take (i := 13) (v := ?_) (oper_at (r := _) rfl) (by kernel_rfl) (by kernel_rfl) (by kernel_rfl) (fun _ _ _ h => h) (Or.inl ⟨by rfl, ?_⟩) (by assumption) ?_
  rotate_left
  · intro w hSw; try dsimp only at hSw
    go_simp
    try with_reducible rfl
  try simp only [Act.put, List.setIfInBounds_toArray, List.set_cons_zero, List.set_cons_succ]
  refine wpAnyH_ready (rs := [11]) (by kernel_rfl) (by simp) ?_
  refine AllReadyH.cons (oper_at (r := _) rfl) (fun K hK => ?_) AllReadyH.nil
  go_simp
  refine (HSM.out _ SV_W1.out.1).mono ?_
  rintro e W2 ⟨rfl, hb⟩
  have SV_W2 := Lib.hid (SV_W1.out.up hb)
  have B1_W2 := Lib.hid (B1_W1.out.up hb)
  have B2_W2 := Lib.hid (B2_W1.out.up hb)
  have WD_W2 := Lib.hid (WD_W1.out.trans (hb.mono WD_W1.out.size))
  clear SV_W1 B1_W1 B2_W1 WD_W1
  clear hb 
  go_wp2_with fail
  refine hK.out _ _ (HM_wf.out _ WD_W2.out) (fun _ => ?_)
  clear hK K
  try simp only [Act.put, List.setIfInBounds_toArray, List.set_cons_zero, List.set_cons_succ]
  refine wpAnyH_ready (rs := [14]) (by kernel_rfl) (by simp) ?_
  refine AllReadyH.cons (oper_at (r := _) rfl) (fun K hK => ?_) AllReadyH.nil
  go_simp
  refine (HSR.out _ SV_W2.out.1).mono ?_
  rintro e W3 ⟨rfl, hb⟩
  have SV_W3 := Lib.hid (SV_W2.out.up hb)
  have B1_W3 := Lib.hid (B1_W2.out.up hb)
  have B2_W3 := Lib.hid (B2_W2.out.up hb)
  have WD_W3 := Lib.hid (WD_W2.out.trans (hb.mono WD_W2.out.size))
  clear SV_W2 B1_W2 B2_W2 WD_W2
  clear hb 
  go_wp2_with fail
  refine hK.out _ _ (HM_wf.out _ WD_W3.out) (fun _ => ?_)
  clear hK K
  try simp only [Act.put, List.setIfInBounds_toArray, List.set_cons_zero, List.set_cons_succ]
  refine wpAnyH_take (i := 15) (v := ?_) (oper_at (r := _) rfl) (by kernel_rfl) (by kernel_rfl) (by kernel_rfl) (fun _ _ _ h => h) (Or.inl ⟨by rfl, ?_⟩) (by assumption) ?_
  rotate_left
  · intro w hSw; try dsimp only at hSw
    go_simp
    try with_reducible rfl
  try simp only [Act.put, List.setIfInBounds_toArray, List.set_cons_zero, List.set_cons_succ]
  refine wpAnyH_take (i := 16) (v := ?_) (oper_at (r := _) rfl) (by kernel_rfl) (by kernel_rfl) (by kernel_rfl) (fun _ _ _ h => h) (Or.inl ⟨by rfl, ?_⟩) (by assumption) ?_
  rotate_left
  · intro w hSw; try dsimp only at hSw
    go_simp
    try with_reducible rfl
  try simp only [Act.put, List.setIfInBounds_toArray, List.set_cons_zero, List.set_cons_succ]
  refine wpAnyH_take (i := 17) (v := ?_) (oper_at (r := _) rfl) (by kernel_rfl) (by kernel_rfl) (by kernel_rfl) (fun _ _ _ h => h) (Or.inl ⟨by rfl, ?_⟩) (by assumption) ?_
  rotate_left
  · intro w hSw; try dsimp only at hSw
    go_simp
    try with_reducible rfl
  try simp only [Act.put, List.setIfInBounds_toArray, List.set_cons_zero, List.set_cons_succ]
  refine wpAnyH_take (i := 18) (v := ?_) (oper_at (r := _) rfl) (by kernel_rfl) (by kernel_rfl) (by kernel_rfl) (fun _ _ _ h => h) (Or.inl ⟨by rfl, ?_⟩) (by assumption) ?_
  rotate_left
  · intro w hSw; try dsimp only at hSw
    go_simp
    try with_reducible rfl
  try simp only [Act.put, List.setIfInBounds_toArray, List.set_cons_zero, List.set_cons_succ]
  refine wpAnyH_take (i := 19) (v := ?_) (oper_at (r := _) rfl) (by kernel_rfl) (by kernel_rfl) (by kernel_rfl) (fun _ _ _ h => h) (Or.inl ⟨by rfl, ?_⟩) (by assumption) ?_
  rotate_left
  · intro w hSw; try dsimp only at hSw
    go_simp
    try with_reducible rfl
  try simp only [Act.put, List.setIfInBounds_toArray, List.set_cons_zero, List.set_cons_succ]
  refine wpAnyH_ready (rs := [20]) (by kernel_rfl) (by simp) ?_
  refine AllReadyH.cons (oper_at (r := _) rfl) (fun K hK => ?_) AllReadyH.nil
  go_simp
  refine (HCP.out _ SV_W3.out.1).mono ?_
  rintro e W4 ⟨⟨X3, x3, Y3, y3, rfl, r1, r2⟩, hb⟩
  have SV_W4 := Lib.hid (SV_W3.out.up hb)
  have B1_W4 := Lib.hid (B1_W3.out.up hb)
  have B2_W4 := Lib.hid (B2_W3.out.up hb)
  have WD_W4 := Lib.hid (WD_W3.out.trans (hb.mono WD_W3.out.size))
  clear SV_W3 B1_W3 B2_W3 WD_W3
  have R1_W4 := Lib.hid r1
  have R2_W4 := Lib.hid r2
  clear hb r1 r2
  go_wp2_with fail
  refine hK.out _ _ (HM_wf.out _ WD_W4.out) (fun _ => ?_)
  clear hK K
  try simp only [Act.put, List.setIfInBounds_toArray, List.set_cons_zero, List.set_cons_succ]
  refine wpAnyH_ready (rs := [21]) (by kernel_rfl) (by simp) ?_
  refine AllReadyH.cons (oper_at (r := _) rfl) (fun K hK => ?_) AllReadyH.nil
  go_simp
  refine (HSC.out _ SV_W4.out.1 X3 x3 Y3 y3 R1_W4.out R2_W4.out).mono ?_
  rintro e W5 ⟨rfl, hb⟩
  have SV_W5 := Lib.hid (SV_W4.out.up hb)
  have B1_W5 := Lib.hid (B1_W4.out.up hb)
  have B2_W5 := Lib.hid (B2_W4.out.up hb)
  have WD_W5 := Lib.hid (WD_W4.out.trans (hb.mono WD_W4.out.size))
  have R1_W5 := Lib.hid (Reads.up R1_W4.out hb)
  have R2_W5 := Lib.hid (Reads.up R2_W4.out hb)
  clear SV_W4 B1_W4 B2_W4 WD_W4 R1_W4 R2_W4
  clear hb 
  go_wp2_with fail
  refine hK.out _ _ (HM_wf.out _ WD_W5.out) (fun _ => ?_)
  clear hK K
  try simp only [Act.put, List.setIfInBounds_toArray, List.set_cons_zero, List.set_cons_succ]
  refine wpAnyH_take (i := 22) (v := ?_) (oper_at (r := _) rfl) (by kernel_rfl) (by kernel_rfl) (by kernel_rfl) (fun _ _ _ h => h) (Or.inl ⟨by rfl, ?_⟩) (by assumption) ?_
  rotate_left
  · intro w hSw; try dsimp only at hSw
    go_simp
    try with_reducible rfl
  try simp only [Act.put, List.setIfInBounds_toArray, List.set_cons_zero, List.set_cons_succ]
  refine wpAnyH_take (i := 23) (v := ?_) (oper_at (r := _) rfl) (by kernel_rfl) (by kernel_rfl) (by kernel_rfl) (fun _ _ _ h => h) (Or.inl ⟨by rfl, ?_⟩) (by assumption) ?_
  rotate_left
  · intro w hSw; try dsimp only at hSw
    go_simp
    try with_reducible rfl
  try simp only [Act.put, List.setIfInBounds_toArray, List.set_cons_zero, List.set_cons_succ]
  refine wpAnyH_done (by kernel_rfl) ?_ _
  refine NoPanic.normal ?_
  go_wp2_with fail
  go_ret
  exact ⟨rfl, SV_W5.out.1⟩

end Go.Proofs.YtaeelanbkdkppaaDoor

/-
  The statement MorphismSame: the law answers true for every input, and its arguments read as they did; its card.
-/
namespace Go.Proofs.YtaeelanbkdkppaaDoor.morphismSame
open Go.ChangeShapes Go.WideShapes Go.ChangeAt Go.RowKit Go.Deep

set_option maxRecDepth 100000 in
theorem lifted (os : Os) (started : os.Started) (H : Type) (enc : TypeId × Value → H) :
    ReturnsInHanded {} Tryd.checked os 4 .any (fun w args => (Rows.morphismSameSpec.pre enc Tryd.prog Tryd.f4 Rows.morphismSameRow.domain false w args ∧ laidMetH Tryd.prog laidL w) ∧ sizedMet enc Tryd.prog Tryd.f4 (OpenSpec.ofChange Rows.morphismSameSpec) false w args)
      (Rows.morphismSameSpec.post enc Tryd.prog Tryd.f4 false true false false) := by
  refine returnsInHanded_of_change_and (C := Tryd.checked) (X := fun w _ => laidMetH Tryd.prog laidL w) (fun _ _ _ hh h => h.of_heap hh) ownNone started (by kernel_rfl) Tryd.func4
    (ChangeSpec.witness_shaped (enc := enc) (C := Tryd.checked) (os := os) (X := fun w _ => laidMetH Tryd.prog laidL w) false (World.laidAll Tryd.prog os laidL) #[.agg #[.slice none 0 0, .slice none 0 0], .agg #[.slice none 0 0, .slice none 0 0], .agg #[.slice none 0 0, .slice none 0 0]] 8 (World.laidAll_os _ _ _)
      (shaped os _) (by kernel_rfl) (by kernel_rfl) (by kernel_rfl) (met os _)) ?_
  intro W base args ds gs before hval0 hW hcnd hsz0 hL _
  have hval : ∀ (j : Nat) t v, Tryd.f4.params[j]? = some t → args[j]? = some v → Value.okWide Tryd.prog W .any base t v := hval0
  have hsz : (DataW.weightsEach Tryd.prog (Tryd.f4.params.toList ++ Rows.morphismSameSpec.plain.varTypes Tryd.prog) (ds ++ gs)).all (· ≤ reachBytes) = true := hsz0
  obtain ⟨hTab, h00⟩ := tab_of_laid hL
  have hW' := hW
  obtain ⟨p, q, hA0, hV, rfl, hfz, hnd⟩ := hW
  have hA : DataW.TrodAll enc Tryd.prog W 0 (fun _ => true) true Tryd.f4.params.toList args.toList ds p := hA0
  rw [Tryd.params4] at hA hval hsz
  obtain ⟨v0, v1, v2, d0, d1, d2, p0, p1, p2, rfl, rfl, rfl, h0, h1, h2⟩ := trodAll_three hA
  obtain ⟨rfl, rfl⟩ := trodVars_none hV
  clear hA0 hval0 hsz0 hL hcnd
  simp only [List.append_nil] at hW'
  have hlt : ∀ x ∈ p0 ++ p1 ++ p2, x.block < W.heap.size := fun x hx => by simpa using hW'.lt x (by simpa using hx)
  have k0 := h0
  obtain ⟨cs0, rfl, _⟩ := okWide_struct Tryd.underlying25 (hval 0 25 v0 rfl rfl)
  obtain ⟨f0, g0⟩ := h0
  obtain ⟨t0, An0, cn0, Ae0, ce0, e0, hT0⟩ := open_G g0
  obtain rfl := agg_of (e0)
  have k1 := h1
  obtain ⟨cs1, rfl, _⟩ := okWide_struct Tryd.underlying27 (hval 1 27 v1 rfl rfl)
  obtain ⟨f1, g1⟩ := h1
  obtain ⟨t1, An1, cn1, Ae1, ce1, e1, hT1, hU1, hw1⟩ := open_M g1
  obtain ⟨l1, z1⟩ := hw1 (fun n hn => by simpa using List.all_eq_true.1 hsz n (DataW.weights_mem_each (j := 1) rfl rfl n hn))
  obtain rfl := agg_of (e1)
  have k2 := h2
  obtain ⟨cs2, rfl, _⟩ := okWide_struct Tryd.underlying27 (hval 2 27 v2 rfl rfl)
  obtain ⟨f2, g2⟩ := h2
  obtain ⟨t2, An2, cn2, Ae2, ce2, e2, hT2, hU2, hw2⟩ := open_M g2
  obtain ⟨l2, z2⟩ := hw2 (fun n hn => by simpa using List.all_eq_true.1 hsz n (DataW.weights_mem_each (j := 2) rfl rfl n hn))
  obtain rfl := agg_of (e2)
  refine (lawSame t0 An0 cn0 Ae0 ce0 t1 An1 cn1 Ae1 ce1 t2 An2 cn2 Ae2 ce2 W h00 hTab hT0 hT1 hU1 l1 z1 hT2 hU2 l2 z2).mono fun e W' ⟨he, hg⟩ => ?_
  subst he
  exact ⟨_, rfl, _, _, _, [], p0 ++ p1 ++ p2, [], hW', trodAll_cons_mk (shut_bool Tryd.underlying4 _) trodAll_mk0, (by rw [List.append_assoc p0 p1 p2]; exact trodAll_mk3 (Below.trod laidOut (by kernel_rfl) (of_decide_eq_true (by kernel_rfl)) k0 hg (fun x hx => hlt x (List.mem_append_left _ (List.mem_append_left _ hx)))) (Below.trod laidOut (by kernel_rfl) (of_decide_eq_true (by kernel_rfl)) k1 hg (fun x hx => hlt x (List.mem_append_left _ (List.mem_append_right _ hx)))) (Below.trod laidOut (by kernel_rfl) (of_decide_eq_true (by kernel_rfl)) k2 hg (fun x hx => hlt x (List.mem_append_right _ hx)))), rfl, hg.frame _, fun h => by cases h⟩

theorem f_holds : Rows.MorphismSameSaid :=
  OpenClaim.holds_of_wide 4 Tryd.f4 rfl rfl rfl rfl rfl rfl rfl ⟨rfl, rfl, rfl, rfl, rfl⟩ rfl rfl rfl rfl rfl (by kernel_rfl) Tryd.func4 (by kernel_rfl)
    (of_decide_eq_true (by kernel_rfl)) (by unfold Func.isWrapper; first | (rw [if_pos (by decide +kernel)]; kernel_rfl) | (rw [if_neg (by decide +kernel)]; exact ⟨rfl, rfl⟩))
    (fun os started H enc _ => lifted os started H enc)

theorem proved : Rows.MorphismSameCardSaid :=
  Claim7.holds_tied_plain_at .later [] [.data] true (true, "be0e74ecbec61e216f1dec99b2fe76d9649797ab71005ecd4978206190a01235") false
    f_holds (fun _ h => by cases h) (by kernel_rfl) (fun _ h => by cases h) morphismSame_row_tie rfl ⟨rfl, rfl⟩ (by kernel_rfl) rfl
    (fun f fn hf hfn => by
      obtain rfl : f = 4 := Option.some.inj ((show Tryd.prog.funcNamed "scarfjoint/scarfjointlaw06.MorphismSame" = some 4 by kernel_rfl).symm.trans hf) |>.symm
      obtain rfl : fn = Tryd.f4 := (Option.some.inj (Tryd.func4.symm.trans hfn)).symm
      exact ⟨by kernel_rfl, fun j t ht => by
        rw [Tryd.params4] at ht
        have hm : t ∈ [25, 27, 27] := List.mem_of_getElem? (by simpa using ht)
        have hs : ∀ t ∈ [25, 27, 27], Tryd.prog.wantsStandIn t = false := by
          intro t ht
          simp only [List.mem_cons, List.not_mem_nil, or_false] at ht
          rcases ht with rfl | rfl | rfl <;> kernel_rfl
        exact hs t hm⟩)
    (by kernel_rfl)

end Go.Proofs.YtaeelanbkdkppaaDoor.morphismSame
