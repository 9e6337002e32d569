import Derived.Test.YthnhacncnhknnaaGreatDoorZ04
import Derived.Test.YthnhacncnhknnaaGreatDoorZ03
import Derived.Lay
import Derived.MakeChecks
import Derived.Lib.LaidTab
import Derived.Stop.LaidErr
import Derived.Test.YthnhacncnhknnaaGreatDoorRows
import Derived.Test.YthnhacncnhknnaaGreatDoorZ05
/-
  Parts of graphs, the laws: own, small, and small of an arrow. Printed by mkl1.py.
-/
namespace Go.Proofs.YthnhacncnhknnaaGreatDoor
open Go.RowKit Go.Shelf

set_option maxRecDepth 100000 in
set_option maxHeartbeats 4000000 in
theorem ownM_any (m : Mo) (Mn : Option Addr) (mn : Nat) (Me : Option Addr) (me : Nat) (w : World) (hm1 : Ints w w.heap.size Mn m.ns) (hm2 : Ints w w.heap.size Me m.es) (lm1 : m.ns.length ≤ 1000) (lm2 : m.es.length ≤ 1000) :
    Calls Tryz.prog 8 #[gval Mn m.ns.length mn Me m.es.length me] w fun e w' => (∃ v u, e = .returned (.agg #[v, u]) ∧ OwnI w' w.heap.size v (m.ns) ∧ OwnI w' w.heap.size u (m.es)) ∧ Below w.heap.size w w' := by
  have hS0 : SR w _ ((w.alloc (.cells #[.slice Mn m.ns.length mn, .slice Me m.es.length me] 27)).alloc (.cells #[.slice none 0 0, .slice none 0 0] 27)) := SR.push (SR.push (SR.nil w) rfl _ _ _) (by simp) _ _ _
  have HN1 := Lib.hid (fun u (hu : Below w.heap.size w u) => cloneI_any m.ns Mn u.heap.size mn u (by omega) (Reads.up hm1 hu))
  have HN2 := Lib.hid (fun u (hu : Below w.heap.size w u) => cloneI_any m.es Me u.heap.size me u (by omega) (Reads.up hm2 hu))
  clear hm1 hm2
  generalize m.ns = L1 at *
  generalize m.es = L2 at *
  go_enter Tryz.func8, Tryz.ntmps8
  go_wp2_with fail
  generalize hw1 : ((w.alloc (.cells #[.slice Mn L1.length mn, .slice Me L2.length me] 27)).alloc (.cells #[.slice none 0 0, .slice none 0 0] 27)) = w1 at *
  clear hw1
  have HS := Lib.hid hS0
  have HWS : Hid (w.heap.size ≤ w1.drew.heap.size) := Lib.hid hS0.1.size
  clear hS0
  obtain ⟨c0x, c0y⟩ := HS.out.cell (i := 0) rfl
  obtain ⟨c1x, c1y⟩ := HS.out.cell (i := 1) rfl
  simp only [Nat.add_zero] at c0x c0y
  have fr0 := HS.out.free (i := 1) rfl 0
  have fr1 := HS.out.free (i := 1) rfl 1
  have HSd : Hid (SR w _ w1.drew) := Lib.hid (HS.out.up (below_d _))
  have HS1 : Hid ((fun u : World => u.cell? ⟨w.heap.size, 0, none⟩ = some (.slice Mn L1.length mn) ∧ u.cell? ⟨w.heap.size, 1, none⟩ = some (.slice Me L2.length me)) w1.drew) := Lib.hid ⟨c0x, c0y⟩
  have HUP : Hid (∀ u u', (fun u : World => u.cell? ⟨w.heap.size, 0, none⟩ = some (.slice Mn L1.length mn) ∧ u.cell? ⟨w.heap.size, 1, none⟩ = some (.slice Me L2.length me)) u → Below u.heap.size u u' → (fun u : World => u.cell? ⟨w.heap.size, 0, none⟩ = some (.slice Mn L1.length mn) ∧ u.cell? ⟨w.heap.size, 1, none⟩ = some (.slice Me L2.length me)) u') := Lib.hid fun u u' h hb => ⟨cell_up hb (h.1), cell_up hb (h.2)⟩
  clear c0x c0y c1x c1y fr0 fr1
  refine wp_region_noPanic ?_
  refine wp_region_held_drew (S := (fun u : World => u.cell? ⟨w.heap.size, 0, none⟩ = some (.slice Mn L1.length mn) ∧ u.cell? ⟨w.heap.size, 1, none⟩ = some (.slice Me L2.length me))) (by kernel_rfl) (HS1.out) (fun hHeld => ?_)
  refine wpAnyH_take (i := 0) (v := ?_) (oper_at (r := _) rfl) (by kernel_rfl) (by kernel_rfl) (by kernel_rfl) (fun _ _ _ h => h) (Or.inl ⟨by rfl, ?_⟩) (by assumption) ?_
  rotate_left
  · intro w hSw; try dsimp only at hSw
    go_simp
    try with_reducible rfl
  try simp only [Act.put, List.setIfInBounds_toArray, List.set_cons_zero, List.set_cons_succ]
  refine wpAnyH_take (i := 1) (v := ?_) (oper_at (r := _) rfl) (by kernel_rfl) (by kernel_rfl) (by kernel_rfl) (fun _ _ _ h => h) (Or.inl ⟨by rfl, ?_⟩) (by assumption) ?_
  rotate_left
  · intro w hSw; try dsimp only at hSw
    go_simp
    try with_reducible rfl
  try simp only [Act.put, List.setIfInBounds_toArray, List.set_cons_zero, List.set_cons_succ]
  refine wpAnyH_take (i := 3) (v := ?_) (oper_at (r := _) rfl) (by kernel_rfl) (by kernel_rfl) (by kernel_rfl) (fun _ _ _ h => h) (Or.inl ⟨by rfl, ?_⟩) (by assumption) ?_
  rotate_left
  · intro w hSw; try dsimp only at hSw
    go_simp
    try with_reducible rfl
  try simp only [Act.put, List.setIfInBounds_toArray, List.set_cons_zero, List.set_cons_succ]
  refine wpAnyH_take (i := 4) (v := ?_) (oper_at (r := _) rfl) (by kernel_rfl) (by kernel_rfl) (by kernel_rfl) (fun _ _ _ h => h) (Or.inl ⟨by rfl, ?_⟩) (by assumption) ?_
  rotate_left
  · intro w hSw; try dsimp only at hSw
    go_simp
    try with_reducible rfl
  try simp only [Act.put, List.setIfInBounds_toArray, List.set_cons_zero, List.set_cons_succ]
  refine wpAnyH_ready (rs := [2]) (by kernel_rfl) (by simp) ?_
  refine AllReadyH.cons (oper_at (r := _) rfl) (fun K hK => ?_) AllReadyH.nil
  go_simp
  refine (HN1.out _ HSd.out.1).mono ?_
  rintro e w2 ⟨v2, rfl, ho2, hb2⟩
  have HS2 := Lib.hid (HUP.out _ _ HS1.out hb2)
  have HLE := Lib.hid hb2.size
  have HSR2 := Lib.hid (HSd.out.up hb2)
  have HO2 := Lib.hid ho2
  obtain ⟨A2, d2, rfl⟩ := OwnE.slice ho2
  clear ho2 hb2
  go_wp2_with fail
  refine hK.out _ _ (HS2.out) (fun _ => ?_)
  clear hK K
  try simp only [Act.put, List.setIfInBounds_toArray, List.set_cons_zero, List.set_cons_succ]
  refine wpAnyH_ready (rs := [5]) (by kernel_rfl) (by simp) ?_
  refine AllReadyH.cons (oper_at (r := _) rfl) (fun K hK => ?_) AllReadyH.nil
  go_simp
  refine (HN2.out _ HSR2.out.1).mono ?_
  rintro e w3 ⟨v3, rfl, ho3, hb3⟩
  have HS3 := Lib.hid (HUP.out _ _ HS2.out hb3)
  have HSR3 := Lib.hid (HSR2.out.up hb3)
  have HOO := Lib.hid (OwnE.below HO2.out hb3 (Nat.le_refl _))
  have HO3 := Lib.hid ho3
  obtain ⟨A3, d3, rfl⟩ := OwnE.slice ho3
  clear ho3 hb3 HO2
  go_wp2_with fail
  refine hK.out _ _ (HS3.out) (fun _ => ?_)
  clear hK K
  try simp only [Act.put, List.setIfInBounds_toArray, List.set_cons_zero, List.set_cons_succ]
  refine wpAnyH_take (i := 6) (v := ?_) (oper_at (r := _) rfl) (by kernel_rfl) (by kernel_rfl) (by kernel_rfl) (fun _ _ _ h => h) (Or.inl ⟨by rfl, ?_⟩) (by assumption) ?_
  rotate_left
  · intro w hSw; try dsimp only at hSw
    go_simp
    try with_reducible rfl
  try simp only [Act.put, List.setIfInBounds_toArray, List.set_cons_zero, List.set_cons_succ]
  obtain ⟨c1x, c1y⟩ := HSR3.out.cell (i := 1) rfl
  have fr0 := HSR3.out.free (i := 1) rfl 0
  have fr1 := HSR3.out.free (i := 1) rfl 1
  have HSZ := Lib.hid (HSR3.out.set (i := 1) rfl (.slice A2 L1.length d2) (.slice A3 L2.length d3))
  obtain ⟨z0x, z0y⟩ := HSZ.out.cell (i := 0) rfl
  simp only [Nat.add_zero] at z0x z0y
  have HS4 : Hid ((fun u : World => u.cell? ⟨w.heap.size, 0, none⟩ = some (.slice Mn L1.length mn) ∧ u.cell? ⟨w.heap.size, 1, none⟩ = some (.slice Me L2.length me)) _) := Lib.hid ⟨z0x, z0y⟩
  clear z0x z0y
  refine wpAnyH_ready (rs := [7]) (by kernel_rfl) (by simp) ?_
  refine AllReadyH.cons (oper_at (r := _) rfl) (fun K hK => ?_) AllReadyH.nil
  go_simp
  refine hK.out _ _ (HS4.out) (fun _ => ?_)
  clear hK K
  try simp only [Act.put, List.setIfInBounds_toArray, List.set_cons_zero, List.set_cons_succ]
  refine wpAnyH_done (by kernel_rfl) ?_ _
  refine NoPanic.normal ?_
  go_wp2_with fail
  obtain ⟨r0, r1⟩ := HSZ.out.cell (i := 1) rfl
  have hlt : w.heap.size + 1 < w1.heap.size := heap_lt (HS.out.2 1 _ rfl)
  have hsd := HSR2.out.1.size
  have hle : w1.drew.heap.size ≤ w2.heap.size := HLE.out
  refine bodyPost_ret (v := .agg #[.slice A2 L1.length d2, .slice A3 L2.length d3]) (by simp [results, Tryz.results8, go_sem, r0, r1]) rfl ?_
  have s1 : OwnI ((w3.setCell ⟨w.heap.size + 1, 0, none⟩ (.slice A2 L1.length d2)).setCell ⟨w.heap.size + 1, 1, none⟩ (.slice A3 L2.length d3)) _ _ _ := ownsRow_setCell_below (ownsRow_setCell_below HOO.out (by show w.heap.size + 1 < w1.heap.size; exact hlt) _) (by show w.heap.size + 1 < w1.heap.size; exact hlt) _
  have s2 : OwnI ((w3.setCell ⟨w.heap.size + 1, 0, none⟩ (.slice A2 L1.length d2)).setCell ⟨w.heap.size + 1, 1, none⟩ (.slice A3 L2.length d3)) _ _ _ := ownsRow_setCell_below (ownsRow_setCell_below HO3.out (by show w.heap.size + 1 < w2.heap.size; exact Nat.lt_of_lt_of_le hlt hle) _) (by show w.heap.size + 1 < w2.heap.size; exact Nat.lt_of_lt_of_le hlt hle) _
  exact ⟨⟨_, _, rfl, s1.mono HWS.out, s2.mono (Nat.le_trans HWS.out hle)⟩, HSZ.out.1⟩

/-- own, as a contract that hands over a part -/
theorem own7_any (p : Mo) (Pn : Option Addr) (pn : Nat) (Pe : Option Addr) (pe : Nat) (u : World) (hp : PtAt u Pn Pe p) :
    Calls Tryz.prog 8 #[gval Pn p.ns.length pn Pe p.es.length pe] u fun e w' => (∃ Xn xn Xe xe, e = .returned (gval Xn p.ns.length xn Xe p.es.length xe) ∧ PtAt w' Xn Xe p) ∧ Below u.heap.size u w' := by
  refine (ownM_any p Pn pn Pe pe u hp.ns hp.es hp.ln hp.le).mono ?_
  rintro e w' ⟨⟨v, x, rfl, o1, o2⟩, hb⟩
  have r1 := isI_own o1
  have r2 := isI_own o2
  obtain ⟨A1, d1, rfl⟩ := OwnE.slice o1
  obtain ⟨A2, d2, rfl⟩ := OwnE.slice o2
  obtain ⟨B1, k1, e1, q1, _⟩ := r1
  obtain ⟨B2, k2, e2, q2, _⟩ := r2
  injection e1 with e1 _ e3
  injection e2 with e2 _ e4
  subst e1 e2 e3 e4
  exact ⟨⟨_, _, _, _, rfl, ⟨q1, q2, hp.ln, hp.le⟩⟩, hb⟩

/-- a part with where it lies -/
structure PtV where
  p : Mo
  Pn : Option Addr
  pn : Nat
  Pe : Option Addr
  pe : Nat
abbrev PtV.val (x : PtV) : Value := gval x.Pn x.p.ns.length x.pn x.Pe x.p.es.length x.pe
def PtV.len (x : PtV) : Prop := x.p.ns.length ≤ 1152921504606846976 ∧ x.p.es.length ≤ 1152921504606846976
/-- a block of parts -/
def PtsAt (u : World) (A : Option Addr) (L : List PtV) : Prop := L = [] ∨ ∃ b, A = some ⟨b, 0, none⟩ ∧ b < u.heap.size ∧ ∀ i (h : i < L.length), u.cell? ⟨b, i * 2, none⟩ = some (.slice L[i].Pn L[i].p.ns.length L[i].pn) ∧ u.cell? ⟨b, i * 2 + 1, none⟩ = some (.slice L[i].Pe L[i].p.es.length L[i].pe)
theorem PtsAt.up {u u' : World} {A : Option Addr} {L : List PtV} (h : PtsAt u A L) (hb : Below u.heap.size u u') : PtsAt u' A L := by
  rcases h with h | ⟨b, h1, h2, h3⟩
  · exact .inl h
  · exact .inr ⟨b, h1, Nat.lt_of_lt_of_le h2 hb.size, fun i hi => ⟨cell_up hb (h3 i hi).1, cell_up hb (h3 i hi).2⟩⟩
set_option maxHeartbeats 1000000 in
theorem smallC_any (x : PtV) (w : World) (hl : x.len) :
    Calls Tryz.prog 23 #[x.val] w fun e w' => e = .returned (.bool (!fewM x.p 150)) ∧ Below w.heap.size w w' := by
  have HF := Lib.hid (fun (u : World) => few7_any x.p 150 x.Pn x.pn x.Pe x.pe u hl.1 hl.2)
  have hB : Below w.heap.size w (w.alloc (.cells #[.slice x.Pn x.p.ns.length x.pn, .slice x.Pe x.p.es.length x.pe] 27)) := (Below.refl _ _).alloc (Nat.le_refl _) _
  have HB := Lib.hid hB
  have hx := heap_alloc_new w (.cells #[.slice x.Pn x.p.ns.length x.pn, .slice x.Pe x.p.es.length x.pe] 27)
  obtain ⟨c0, c1⟩ := cell2 hx
  clear hB hx
  generalize fewM x.p 150 = z at *
  go_enter Tryz.func23, Tryz.ntmps23
  go_wp2_with fail
  refine (HF.out _).mono ?_
  rintro e w2 ⟨rfl, hb2⟩
  have HB2 := Lib.hid (HB.out.trans (hb2.mono HB.out.size))
  clear hb2
  go_wp2_with fail
  go_ret
  exact ⟨rfl, HB2.out⟩
set_option maxRecDepth 100000 in
set_option maxHeartbeats 2000000 in
theorem idxP_any (L : List PtV) (A : Option Addr) (c : Nat) (w : World) (hl : L.length ≤ 10) (hL : ∀ x ∈ L, x.len) (hA : PtsAt w A L) :
    Calls Tryz.prog 45 #[.slice A L.length c, .func (.func 23) #[] #[]] w fun e w' => (∃ z : Int, e = .returned (.int .i64 z) ∧ ((z = -1 ∧ L.all (fun x => fewM x.p 150) = true) ∨ (0 ≤ z ∧ L.all (fun x => fewM x.p 150) = false))) ∧ Below w.heap.size w w' := by
  have HA := Lib.hid (fun (u : World) (hu : Below w.heap.size w u) => hA.up hu)
  have HC := Lib.hid (fun i (h : i < L.length) (u : World) => smallC_any L[i] u (hL _ (List.getElem_mem h)))
  have HY : Hid ((∀ i (h : i < L.length), fewM L[i].p 150 = true) → L.all (fun x => fewM x.p 150) = true) := Lib.hid fun h => List.all_eq_true.2 fun x hx => by
    obtain ⟨i, hi, rfl⟩ := List.mem_iff_getElem.1 hx
    exact h i hi
  have HN : Hid (∀ i (h : i < L.length), fewM L[i].p 150 = false → L.all (fun x => fewM x.p 150) = false) := Lib.hid fun i hi hf => Bool.eq_false_iff.2 fun h => by
    have := List.all_eq_true.1 h _ (List.getElem_mem hi)
    rw [hf] at this; cases this
  have hlen : (L.length : Int) ≤ 10 := by omega
  clear hL hA
  generalize L.all (fun x => fewM x.p 150) = R at *
  go_enter Tryz.func45, Tryz.ntmps45
  go_wp2_with fail
  go_loopw [8] (fun vi wr => ∃ i : Nat, i ≤ L.length ∧ vi = .int .i64 i ∧ Below w.heap.size w wr ∧ (∀ j (h : j < L.length), j < i → fewM L[j].p 150 = true)) (fun vi _ => L.length - (intOf vi).toNat)
  case atStart => exact ⟨0, Nat.zero_le _, rfl, Below.refl _ _, fun j h hj => by omega⟩
  case round =>
    obtain ⟨i, hi, rfl, hb, hs⟩ := hrel
    have HB := Lib.hid hb
    have HS := Lib.hid hs
    clear hs
    by_cases hlt : i < L.length
    · obtain ⟨b, hAb, hbl, hcell⟩ : ∃ b, A = some ⟨b, 0, none⟩ ∧ b < wr.heap.size ∧ ∀ i (h : i < L.length), wr.cell? ⟨b, i * 2, none⟩ = some (.slice L[i].Pn L[i].p.ns.length L[i].pn) ∧ wr.cell? ⟨b, i * 2 + 1, none⟩ = some (.slice L[i].Pe L[i].p.es.length L[i].pe) := by
        rcases HA.out _ hb with h | h
        · rw [h] at hlt; simp at hlt
        · exact h
      obtain ⟨k0, k1⟩ := hcell i hlt
      subst hAb
      have HCI := Lib.hid (HC.out i hlt wr)
      have HNI := Lib.hid (HN.out i hlt)
      have HSI : Hid (fewM L[i].p 150 = true → ∀ j (h : j < L.length), j < i + 1 → fewM L[j].p 150 = true) := Lib.hid fun h j hj hji => by
        by_cases e : j = i
        · subst e; exact h
        · exact HS.out j hj (by omega)
      have q0 : (0 : Int) ≤ (i : Int) := by omega
      have q1 : (i : Int) < (L.length : Int) := by omega
      have q2 : ((i : Int)).toNat = i := by omega
      have HLT := Lib.hid hlt
      have HM : Hid (L.length - ((i : Int) + 1).toNat < L.length - ((i : Int)).toNat) := Lib.hid (by omega)
      have hsz := hb.size
      generalize L[i] = x at *
      generalize fewM x.p 150 = z at *
      clear hb hcell hlt
      go_wp2_with fail
      refine HCI.out.mono ?_
      rintro e w2 ⟨rfl, hb2⟩
      have HB2 := Lib.hid (HB.out.trans (hb2.mono hsz))
      clear hb2
      cases z
      case false =>
        have HR := Lib.hid (HNI.out rfl)
        clear HNI HSI HCI
        go_wp2_with fail
        go_ret
        exact ⟨⟨_, rfl, .inr ⟨by omega, HR.out⟩⟩, HB2.out⟩
      case true =>
        have HX := Lib.hid (HSI.out rfl)
        clear HNI HSI HCI
        go_wp2_with fail
        go_roundw
        case rel => exact ⟨i + 1, HLT.out, by go_num, HB2.out, HX.out⟩
        case measure => exact HM.out
    · have HR := Lib.hid (HY.out fun j h => HS.out j h (by omega))
      clear hb
      go_wp2_with fail
      go_ret
      exact ⟨⟨_, rfl, .inl ⟨rfl, HR.out⟩⟩, HB.out⟩

end Go.Proofs.YthnhacncnhknnaaGreatDoor

/-
  Parts of graphs, the laws: small, and small of an arrow. Printed by mkl2.py.
-/
namespace Go.Proofs.YthnhacncnhknnaaGreatDoor
open Go.RowKit Go.Shelf

set_option maxHeartbeats 1000000 in
theorem contP_any (L : List PtV) (A : Option Addr) (c : Nat) (w : World) (hl : L.length ≤ 10) (hL : ∀ x ∈ L, x.len) (hA : PtsAt w A L) :
    Calls Tryz.prog 22 #[.slice A L.length c, .func (.func 23) #[] #[]] w fun e w' => e = .returned (.bool (!L.all (fun x => fewM x.p 150))) ∧ Below w.heap.size w w' := by
  have HI := Lib.hid (idxP_any L A c w hl hL hA)
  clear hL hA
  generalize L.all (fun x => fewM x.p 150) = R at *
  go_enter Tryz.func22, Tryz.ntmps22
  go_wp2_with fail
  refine HI.out.mono ?_
  rintro e w2 ⟨⟨z, rfl, hz⟩, hb2⟩
  have HB2 := Lib.hid hb2
  clear hb2
  rcases hz with ⟨rfl, rfl⟩ | ⟨hz, rfl⟩
  · go_wp2_with fail
    go_ret
    exact ⟨rfl, HB2.out⟩
  · go_wp2_with fail
    go_ret
    exact ⟨rfl, HB2.out⟩
set_option maxRecDepth 100000 in
set_option maxHeartbeats 2000000 in
theorem small7_any (g : Gr) (L : List PtV) (An : Option Addr) (cn : Nat) (Ae : Option Addr) (ce : Nat) (A : Option Addr) (c : Nat) (w : World) (hl : L.length ≤ 10) (hg : GrAt w An cn Ae ce g) (hL : ∀ x ∈ L, x.len) (hA : PtsAt w A L) :
    Calls Tryz.prog 5 #[gval An g.ns.length cn Ae g.es.length ce, .slice A L.length c] w fun e w' => e = .returned (.bool (fewB g && L.all (fun x => fewM x.p 150))) ∧ Below w.heap.size w w' := by
  have hS0 : SR w _ (w.alloc (.cells #[.slice An g.ns.length cn, .slice Ae g.es.length ce] 25)) := SR.push (SR.nil w) rfl _ _ _
  have HF := Lib.hid (fun (u : World) (hu : Below w.heap.size w u) => few_any g An cn Ae ce u (hg.up hu))
  have HC := Lib.hid (fun (u : World) (hu : Below w.heap.size w u) => contP_any L A c u hl hL (hA.up hu))
  have HS0 := Lib.hid hS0
  clear hg hL hA hS0
  generalize L.all (fun x => fewM x.p 150) = R at *
  generalize fewB g = z at *
  go_enter Tryz.func5, Tryz.ntmps5
  obtain ⟨c0, c1⟩ := HS0.out.cell (i := 0) rfl
  simp only [Nat.add_zero] at c0 c1
  go_wp2_with fail
  refine (HF.out _ HS0.out.1).mono ?_
  rintro e w2 ⟨rfl, hb2⟩
  have HB2 := Lib.hid (HS0.out.1.trans (hb2.mono HS0.out.1.size))
  clear hb2 HS0 HF c0 c1
  cases z
  · go_wp2_with fail
    go_ret
    exact ⟨rfl, HB2.out⟩
  · go_wp2_with fail
    refine (HC.out _ HB2.out).mono ?_
    rintro e w3 ⟨rfl, hb3⟩
    have HB3 := Lib.hid (HB2.out.trans (hb3.mono HB2.out.size))
    clear hb3
    cases R
    · go_wp2_with fail
      go_ret
      exact ⟨rfl, HB3.out⟩
    · go_wp2_with fail
      go_ret
      exact ⟨rfl, HB3.out⟩

/-- an arrow in memory -/
structure Aw where
  a : Gr
  b : Gr
  m : Mo
  An : Option Addr
  cn : Nat
  Ae : Option Addr
  ce : Nat
  Bn : Option Addr
  dn : Nat
  Be : Option Addr
  de : Nat
  Mn : Option Addr
  mn : Nat
  Me : Option Addr
  me : Nat
abbrev Aw.val (x : Aw) : Value := .agg #[.slice x.An x.a.ns.length x.cn, .slice x.Ae x.a.es.length x.ce, .slice x.Bn x.b.ns.length x.dn, .slice x.Be x.b.es.length x.de, .slice x.Mn x.m.ns.length x.mn, .slice x.Me x.m.es.length x.me]
structure AwAt (w : World) (x : Aw) : Prop where
  ga : GrAt w x.An x.cn x.Ae x.ce x.a
  gb : GrAt w x.Bn x.dn x.Be x.de x.b
  m1 : Ints w w.heap.size x.Mn x.m.ns
  m2 : Ints w w.heap.size x.Me x.m.es
  l1 : x.m.ns.length ≤ 1152921504606846976
  l2 : x.m.es.length ≤ 1152921504606846976
theorem AwAt.up {w w' : World} {x : Aw} (h : AwAt w x) (hb : Below w.heap.size w w') : AwAt w' x := ⟨h.ga.up hb, h.gb.up hb, Reads.up h.m1 hb, Reads.up h.m2 hb, h.l1, h.l2⟩
def smallA (x : Aw) : Bool := fewB x.a && fewB x.b && fewM x.m 150
end Go.Proofs.YthnhacncnhknnaaGreatDoor

/-
  The arguments of the laws of parts, opened; the listed tables.
-/
namespace Go.Proofs.YthnhacncnhknnaaGreatDoor
open Go.RowKit

/-- what the rows list -/
abbrev laidL : List (String × DataW Unit) := [("math/bits.deBruijn32tab", Rows.laid_math_bits_deBruijn32tab), ("math/bits.deBruijn64tab", Rows.laid_math_bits_deBruijn64tab)]
theorem tab_of_laid {W : World} (h : laidMetH Tryz.prog laidL W) : TabV W := by
  rw [MakeChecks.laidMetH_plain _ _ _ (by kernel_rfl)] at h
  have hg : Tryz.prog.globalNamed "math/bits.deBruijn64tab" = some 1 := by kernel_rfl
  have e : (Rows.laid_math_bits_deBruijn64tab : DataW Unit) = Lib.tabData .u8 (List.map (fun n : Nat => (n : Int)) Lib.deBruijn64tab) := rfl
  unfold laidL at h
  rw [e] at h
  have h2 := laidMet.tail h
  have t := Lib.tabIs_of_head (t := 104) hg (by kernel_rfl) Tryz.underlying104 Tryz.underlying5 (by kernel_rfl) (by kernel_rfl) h2
  have hc : ∀ j, j < 64 → W.cell? ⟨1, j, none⟩ = some (.int .u8 (Lib.deBruijn64tab.getD j 0)) := fun j hj => by
    have hl : Lib.deBruijn64tab.length = 64 := rfl
    rw [t.cell hg j (by simp [hl, hj])]
    have h1 : Lib.deBruijn64tab[j]? = some (Lib.deBruijn64tab[j]'(by omega)) := List.getElem?_eq_getElem (by omega)
    simp [List.getD, h1]
  exact ⟨hc, World.block_lt_of_cell? _ _ (hc 0 (by decide))⟩
theorem met (os : Os) (args : Array Value) : laidMetH Tryz.prog laidL ((World.laidAll Tryz.prog os laidL).forCall (fun _ _ => 0) ⟨#[], args, []⟩).memory := by
  rw [MakeChecks.laidMetH_plain _ _ _ (by kernel_rfl)]
  exact laidMet_laidAll _ (by kernel_rfl) (by kernel_rfl)
theorem shaped (os : Os) (args : Array Value) : ((World.laidAll Tryz.prog os laidL).forCall (fun _ _ => 0) ⟨#[], args, []⟩).Shaped Tryz.prog := World.shaped_of_ZipB (by kernel_rfl) (by kernel_rfl)

section
open Go.ChangeShapes Go.WideShapes Go.Deep
variable {H : Type} {enc : TypeId × Value → H} {W : World} {fuel : Nat} {cs : List Value} {x : DataW H × List MemPlace}
theorem u64_of {n : Int} (h : (Lit.int .u64 n).wf = true) : ∃ s : Nat, n = (s : Int) ∧ s < 18446744073709551616 := by
  simp [Lit.wf, IntKind.min, IntKind.max, IntKind.signed, IntKind.bits] at h
  exact ⟨n.toNat, by omega, by omega⟩
theorem cellsPt : Tryz.prog.cellsOf 27 = 2 := by kernel_rfl
theorem cellsMo : Tryz.prog.cellsOf 30 = 2 := by kernel_rfl
theorem bytesInt : Tryz.prog.bytesOf 3 = 8 := by kernel_rfl
theorem open_Iw (h : DataW.trod enc Tryz.prog W 0 (fun _ => true) true fuel 22 cs = some x) :
    ∃ (A : Option Addr) (xs : List Int) (c : Nat), cs = [.slice A xs.length c] ∧ Ints W W.heap.size A xs ∧ xs.length ≤ c ∧ c ≤ maxLen ∧ ((∀ n ∈ x.1.weights Tryz.prog 22, n ≤ reachBytes) → xs.length ≤ 1152921504606846976) := by
  obtain ⟨A, xs, c, e, hR, h1, h2⟩ := open_I h
  refine ⟨A, xs, c, e, hR, h1, h2, fun hw => ?_⟩
  rcases open_slice Tryz.underlying22 h with ⟨e2, _⟩ | ⟨a, len, cap, m, n, Ed, Pl, e2, _, hlc, hcm, hm, e3, hi⟩
  · rw [e2] at e
    injection e with e
    injection e with _ e _
    omega
  · rw [e2] at e
    injection e with e
    injection e with _ e _
    subst e3
    have hb : (0x7ffffffff000 : Nat) = reachBytes := rfl
    have hw2 := hw _ (by simp only [DataW.weights, Tryz.underlying22]; exact List.mem_cons_self)
    rw [bytesInt, ← hb] at hw2
    simp at hw2
    omega
theorem weights_struct2 {T a b : TypeId} {f0 f1 : Field} {y0 y1 : DataW H} {p : List MemPlace} (hT : Tryz.prog.underlying T = some (.struct #[f0, f1])) (h0 : f0.type = a) (h1 : f1.type = b) (hx : x = (.agg [y0, y1], p)) (hw : ∀ n ∈ x.1.weights Tryz.prog T, n ≤ reachBytes) :
    (∀ n ∈ y0.weights Tryz.prog a, n ≤ reachBytes) ∧ (∀ n ∈ y1.weights Tryz.prog b, n ≤ reachBytes) := by
  subst hx h0 h1
  refine ⟨fun n hn => hw n ?_, fun n hn => hw n ?_⟩ <;> simp [DataW.weights, hT, DataW.weightsEach, hn]
theorem weights_struct3 {T c : TypeId} {f0 f1 f2 : Field} {y0 y1 y2 : DataW H} {p : List MemPlace} (hT : Tryz.prog.underlying T = some (.struct #[f0, f1, f2])) (h2 : f2.type = c) (hx : x = (.agg [y0, y1, y2], p)) (hw : ∀ n ∈ x.1.weights Tryz.prog T, n ≤ reachBytes) :
    ∀ n ∈ y2.weights Tryz.prog c, n ≤ reachBytes := by
  subst hx h2
  refine fun n hn => hw n ?_
  simp [DataW.weights, hT, DataW.weightsEach, hn]
theorem open_P (h : DataW.trod enc Tryz.prog W 0 (fun _ => true) true fuel 27 cs = some x) :
    ∃ (m : Mo) (An : Option Addr) (cn : Nat) (Ae : Option Addr) (ce : Nat), cs = [.slice An m.ns.length cn, .slice Ae m.es.length ce] ∧ Ints W W.heap.size An m.ns ∧ Ints W W.heap.size Ae m.es ∧ ((∀ n ∈ x.1.weights Tryz.prog 27, n ≤ reachBytes) → m.ns.length ≤ 1152921504606846976 ∧ m.es.length ≤ 1152921504606846976) := by
  obtain ⟨y0, y1, n, hx, hl, h0, h1⟩ := trod_struct2 Tryz.underlying27 h
  dsimp only at h0 h1
  rw [cellsInts] at h0 h1
  rw [cellsPt] at hl
  obtain ⟨An, ns, cn, e0, hN, _, _, w0⟩ := open_Iw h0
  obtain ⟨Ae, es, ce, e1, hE, _, _, w1⟩ := open_Iw h1
  refine ⟨⟨ns, es⟩, An, cn, Ae, ce, two_of hl e0 e1, hN, hE, fun hw => ?_⟩
  obtain ⟨q0, q1⟩ := weights_struct2 Tryz.underlying27 rfl rfl hx hw
  exact ⟨w0 q0, w1 q1⟩
theorem open_M (h : DataW.trod enc Tryz.prog W 0 (fun _ => true) true fuel 30 cs = some x) :
    ∃ (m : Mo) (An : Option Addr) (cn : Nat) (Ae : Option Addr) (ce : Nat), cs = [.slice An m.ns.length cn, .slice Ae m.es.length ce] ∧ Ints W W.heap.size An m.ns ∧ Ints W W.heap.size Ae m.es ∧ ((∀ n ∈ x.1.weights Tryz.prog 30, n ≤ reachBytes) → m.ns.length ≤ 1152921504606846976 ∧ m.es.length ≤ 1152921504606846976) := by
  obtain ⟨y0, y1, n, hx, hl, h0, h1⟩ := trod_struct2 Tryz.underlying30 h
  dsimp only at h0 h1
  rw [cellsInts] at h0 h1
  rw [cellsMo] at hl
  obtain ⟨An, ns, cn, e0, hN, _, _, w0⟩ := open_Iw h0
  obtain ⟨Ae, es, ce, e1, hE, _, _, w1⟩ := open_Iw h1
  refine ⟨⟨ns, es⟩, An, cn, Ae, ce, two_of hl e0 e1, hN, hE, fun hw => ?_⟩
  obtain ⟨q0, q1⟩ := weights_struct2 Tryz.underlying30 rfl rfl hx hw
  exact ⟨w0 q0, w1 q1⟩
theorem six_of2 {cs : List Value} (hl : cs.length = 6) {a b c d e f : Value} (h0 : (cs.drop 0).take 2 = [a, b]) (h1 : (cs.drop 2).take 2 = [c, d]) (h2 : (cs.drop 4).take 2 = [e, f]) : cs = [a, b, c, d, e, f] := by
  match cs, hl with
  | [x, y, z, u, v, w], _ => simp at h0 h1 h2; rw [h0.1, h0.2, h1.1, h1.2, h2.1, h2.2]
end

end Go.Proofs.YthnhacncnhknnaaGreatDoor

/-
  Parts of graphs, the laws: line and awake, over what Close, Boundary and All promise. Printed by mkl3.py.
-/
namespace Go.Proofs.YthnhacncnhknnaaGreatDoor
open Go.RowKit Go.Shelf

theorem reads_lit7 {α : Type} {E : El α} {t : TypeId} {w : World} {g B : Nat} {cs : Array Value} {xs : List α} (h : w.heap[g]? = some (.cells cs t (0, 0))) (hc : cs.toList = cellsE E xs) (hB : g < B) : Reads E w B (some ⟨g, 0, none⟩) xs :=
  .inr ⟨g, 0, rfl, hB, fun i x hx j u hu => by
    have := cellsE_get E hx hu
    rw [← hc, Array.getElem?_toList] at this
    rw [Nat.zero_add, cell_of_row _ _ _ _ _ _ h]
    exact this⟩
theorem gr_lit7 {u : World} {a b : Nat} {ca cb : Array Value} {xs : List Int} {ys : List Ed} {n m : Nat} (hn : n = xs.length) (hm : m = ys.length) (h1 : u.heap[a]? = some (.cells ca 3 (0, 0))) (h2 : u.heap[b]? = some (.cells cb 58 (0, 0))) (e1 : ca.toList = cellsE EInt xs) (e2 : cb.toList = cellsE EEd ys) (l1 : xs.length ≤ 100) (l2 : ys.length ≤ 100) :
    GrAt u (some ⟨a, 0, none⟩) n (some ⟨b, 0, none⟩) m ⟨xs, ys⟩ :=
  ⟨reads_lit7 h1 e1 (heap_lt h1), reads_lit7 h2 e2 (heap_lt h2), ⟨by subst hn; exact Nat.le_refl _, by subst hn; unfold maxLen; omega⟩, ⟨by subst hm; exact Nat.le_refl _, by subst hm; unfold maxLen; omega⟩⟩
def lineG : Gr := ⟨[0, 0, 0], [⟨0, 0, 1⟩, ⟨0, 1, 2⟩]⟩
theorem line_ce : closeE lineG [] [0] = 0 := by decide +kernel
theorem line_cp : closeP lineG [] [0] = ⟨[0, 1], [0]⟩ := by decide +kernel
theorem line_pe : partE lineG ⟨[0, 1], [0]⟩ = 0 := by decide +kernel
theorem line_bd : bndR lineG ⟨[0, 1], [0]⟩ = [1] := by decide +kernel
theorem line_ae : pAllE lineG = 0 := by decide +kernel
theorem line_al : (pAllR lineG).length = 13 := by decide +kernel
theorem gat7_alloc (w : World) (o : Obj) (i : Nat) : (w.alloc o).heap[i]? = if i = w.heap.size then some o else w.heap[i]? := at_alloc w o i
set_option maxRecDepth 100000 in
set_option maxHeartbeats 2000000 in
theorem line7_any (w : World) : Calls Tryz.prog 18 #[] w fun e w' => (∃ A B, e = .returned (gval A 3 3 B 2 2) ∧ GrAt w' A 3 B 2 lineG) ∧ Below w.heap.size w w' := by
  go_enter Tryz.func18, Tryz.ntmps18
  go_wp2_with fail
  refine bodyPost_ret (v := gval (some ⟨w.heap.size + 1, 0, none⟩) 3 3 (some ⟨w.heap.size + 1 + 1, 0, none⟩) 2 2) (by simp [results, Tryz.results18, go_sem]) rfl ?_
  have at1 : ∀ (o0 o1 o2 : Obj), (((w.alloc o0).alloc o1).alloc o2).heap[w.heap.size + 1]? = some o1 := fun _ _ _ => by
    simp only [at_alloc, size_alloc]; repeat (first | rfl | (split; · (first | rfl | omega)))
  have at2 : ∀ (o0 o1 o2 : Obj), (((w.alloc o0).alloc o1).alloc o2).heap[w.heap.size + 1 + 1]? = some o2 := fun _ _ _ => by
    simp only [at_alloc, size_alloc]; repeat (first | rfl | (split; · (first | rfl | omega)))
  exact ⟨⟨_, _, rfl, gr_lit7 rfl rfl (at1 _ _ _) (at2 _ _ _) rfl rfl (by decide) (by decide)⟩, ((((Below.refl _ _).alloc (Nat.le_refl _) _).alloc (by simp) _).alloc (by simp; omega) _)⟩

set_option maxRecDepth 100000 in
set_option maxHeartbeats 4000000 in
theorem awake7 (hC : CloseC 17) (hB : BndC 10) (hA : AllC 19) (w : World) (hT : TabV w) :
    Calls Tryz.prog 4 #[] w fun e w' => e = .returned (.bool true) ∧ Below w.heap.size w w' := by
  have HLI := Lib.hid line7_any
  have HTW := Lib.hid hT
  clear hT
  go_enter Tryz.func4, Tryz.ntmps4
  go_wp2_with fail
  refine (HLI.out _).mono ?_
  rintro e w1 ⟨⟨A0, B0, rfl, hg⟩, hb⟩
  have HG := Lib.hid hg
  have HB1 := Lib.hid hb
  clear hg hb
  have hb2 : Below w1.heap.size w1 (w1.alloc (.cells #[.int .i64 0] 3)) := (Below.refl _ _).alloc (Nat.le_refl _) _
  have HCC := Lib.hid (show GivesM 17 #[gval A0 3 3 B0 2 2, .slice none 0 0, .slice (some ⟨w1.heap.size, 0, none⟩) 1 1] 0 ⟨[0, 1], [0]⟩ (w1.alloc (.cells #[.int .i64 0] 3)) from by
    have h := hC lineG [] [0] A0 3 B0 2 none 0 (some ⟨w1.heap.size, 0, none⟩) 1 (w1.alloc (.cells #[.int .i64 0] 3)) (HG.out.up hb2) (.inl rfl) (reads_lit7 (heap_alloc_new _ _) rfl (by simp)) (by simp) (by simp)
    rw [line_ce, line_cp] at h
    exact h)
  have HB2 := Lib.hid (HB1.out.trans (hb2.mono HB1.out.size))
  clear hb2
  go_wp2_with fail
  refine HCC.out.mono ?_
  rintro e w2 ⟨⟨X1, x1, Y1, y1, rfl, r1, r2, _, _⟩, hb3⟩
  have HB3 := Lib.hid (HB2.out.trans (hb3.mono HB2.out.size))
  have HP := Lib.hid (show PtAt w2 X1 Y1 ⟨[0, 1], [0]⟩ from ⟨r1, r2, by simp, by simp⟩)
  clear r1 r2 hb3 HB2 HB1 HCC HG
  go_upto_region 2 with fail
  have hb : Below w2.heap.size w2 (w2.alloc (.cells #[.slice X1 2 x1, .slice Y1 1 y1] 27)) := (Below.refl _ _).alloc (Nat.le_refl _) _
  have HBX : Hid (BX w2.heap.size (.slice X1 2 x1) (.slice Y1 1 y1) 27 (w2.alloc (.cells #[.slice X1 2 x1, .slice Y1 1 y1] 27))) := Lib.hid (heap_alloc_new _ _)
  have HP4 := Lib.hid (HP.out.up hb)
  have HB4 := Lib.hid (HB3.out.trans (hb.mono HB3.out.size))
  clear hb HP HB3
  simp only [List.length_cons, List.length_nil, Nat.zero_add] at *
  generalize w2.alloc (.cells #[.slice X1 2 x1, .slice Y1 1 y1] 27) = w4 at *
  generalize w2.heap.size = g1 at *
  have HM : Hid (∀ u, Below w4.drew.heap.size w4.drew u → (fun u : World => u.cell? ⟨g1, 0, none⟩ = some (.slice X1 2 x1) ∧ u.cell? ⟨g1, 1, none⟩ = some (.slice Y1 1 y1)) u) := Lib.hid fun u hu => ⟨cell_up hu HBX.out.cells.1, cell_up hu HBX.out.cells.2⟩
  have HVD := Lib.hid (below_d w4)
  have WD0 := Lib.hid (Below.refl w4.drew.heap.size w4.drew)
  go_cut [3, 4] (fun x y wc => ∃ X2 x2, x = .slice X2 1 x2 ∧ y = .int .i64 0 ∧ Ints wc wc.heap.size X2 [1] ∧ Below w4.heap.size w4 wc)
  case first =>
    go_wp2_with fail
    refine wp_region_noPanic ?_
    refine wp_region_held_drew (S := (fun u : World => u.cell? ⟨g1, 0, none⟩ = some (.slice X1 2 x1) ∧ u.cell? ⟨g1, 1, none⟩ = some (.slice Y1 1 y1))) (by kernel_rfl) (HM.out _ WD0.out) (fun hHeld => ?_)
    generalize w4.drew = wd at *
    refine wpAnyH_take (i := 1) (v := ?_) (oper_at (r := _) rfl) (by kernel_rfl) (by kernel_rfl) (by kernel_rfl) (fun _ _ _ h => h) (Or.inl ⟨by rfl, ?_⟩) (by assumption) ?_
    rotate_left
    · intro w hSw; try dsimp only at hSw
      go_simp
      try with_reducible rfl
    try simp only [Act.put, List.setIfInBounds_toArray, List.set_cons_zero, List.set_cons_succ]
    refine wpAnyH_ready (rs := [0]) (by kernel_rfl) (by simp) ?_
    refine AllReadyH.cons (oper_at (r := _) rfl) (fun K hK => ?_) AllReadyH.nil
    go_simp
    refine (HLI.out _).mono ?_
    rintro e x2 ⟨⟨A3, B3, rfl, hg⟩, hb⟩
    have HG := Lib.hid hg
    have HB5 := Lib.hid hb
    clear hg hb
    have HQB := Lib.hid (show GivesI 10 #[gval A3 3 3 B3 2 2, gval X1 2 x1 Y1 1 y1] 0 [1] x2 from by
      have h := hB lineG ⟨[0, 1], [0]⟩ A3 3 B3 2 X1 x1 Y1 y1 x2 HG.out (HP4.out.up (HVD.out.trans (HB5.out.mono HVD.out.size)))
      rw [line_pe, line_bd] at h
      exact h)
    go_wp2_with fail
    refine hK.out _ _ (HM.out _ HB5.out) (fun _ => ?_)
    clear hK K
    try simp only [Act.put, List.setIfInBounds_toArray, List.set_cons_zero, List.set_cons_succ]
    refine wpAnyH_ready (rs := [2]) (by kernel_rfl) (by simp) ?_
    refine AllReadyH.cons (oper_at (r := _) rfl) (fun K hK => ?_) AllReadyH.nil
    go_simp
    refine HQB.out.mono ?_
    rintro e x3 ⟨⟨X2, x2', rfl, r1, _⟩, hb⟩
    have HR1 := Lib.hid r1
    have HB6 := Lib.hid (HB5.out.trans (hb.mono HB5.out.size))
    clear r1 hb
    go_wp2_with fail
    refine hK.out _ _ (HM.out _ HB6.out) (fun _ => ?_)
    clear hK K
    try simp only [Act.put, List.setIfInBounds_toArray, List.set_cons_zero, List.set_cons_succ]
    refine wpAnyH_take (i := 3) (v := ?_) (oper_at (r := _) rfl) (by kernel_rfl) (by kernel_rfl) (by kernel_rfl) (fun _ _ _ h => h) (Or.inl ⟨by rfl, ?_⟩) (by assumption) ?_
    rotate_left
    · intro w hSw; try dsimp only at hSw
      go_simp
      try with_reducible rfl
    try simp only [Act.put, List.setIfInBounds_toArray, List.set_cons_zero, List.set_cons_succ]
    refine wpAnyH_take (i := 4) (v := ?_) (oper_at (r := _) rfl) (by kernel_rfl) (by kernel_rfl) (by kernel_rfl) (fun _ _ _ h => h) (Or.inl ⟨by rfl, ?_⟩) (by assumption) ?_
    rotate_left
    · intro w hSw; try dsimp only at hSw
      go_simp
      try with_reducible rfl
    try simp only [Act.put, List.setIfInBounds_toArray, List.set_cons_zero, List.set_cons_succ]
    refine wpAnyH_take (i := 5) (v := ?_) (oper_at (r := _) rfl) (by kernel_rfl) (by kernel_rfl) (by kernel_rfl) (fun _ _ _ h => h) (Or.inl ⟨by rfl, ?_⟩) (by assumption) ?_
    rotate_left
    · intro w hSw; try dsimp only at hSw
      go_simp
      try with_reducible rfl
    try simp only [Act.put, List.setIfInBounds_toArray, List.set_cons_zero, List.set_cons_succ]
    refine wpAnyH_take (i := 6) (v := ?_) (oper_at (r := _) rfl) (by kernel_rfl) (by kernel_rfl) (by kernel_rfl) (fun _ _ _ h => h) (Or.inl ⟨by rfl, ?_⟩) (by assumption) ?_
    rotate_left
    · intro w hSw; try dsimp only at hSw
      go_simp
      try with_reducible rfl
    try simp only [Act.put, List.setIfInBounds_toArray, List.set_cons_zero, List.set_cons_succ]
    refine wpAnyH_take (i := 7) (v := ?_) (oper_at (r := _) rfl) (by kernel_rfl) (by kernel_rfl) (by kernel_rfl) (fun _ _ _ h => h) (Or.inl ⟨by rfl, ?_⟩) (by assumption) ?_
    rotate_left
    · intro w hSw; try dsimp only at hSw
      go_simp
      try with_reducible rfl
    try simp only [Act.put, List.setIfInBounds_toArray, List.set_cons_zero, List.set_cons_succ]
    refine wpAnyH_done (by kernel_rfl) ?_ _
    refine NoPanic.normal ?_
    go_wp2_with fail
    go_meet
    exact ⟨X2, x2', rfl, rfl, HR1.out, HVD.out.trans (HB6.out.mono HVD.out.size)⟩
  case rest =>
    obtain ⟨X2, x2, rfl, rfl, r1, hb⟩ := hcut
    have HR1 := Lib.hid r1
    have HB7 := Lib.hid hb
    clear r1 hb HM WD0 HVD
    go_wp2_with fail
    refine (HLI.out _).mono ?_
    rintro e w5 ⟨⟨A5, B5, rfl, hg⟩, hb⟩
    have HG := Lib.hid hg
    have HB8 := Lib.hid (HB7.out.trans (hb.mono HB7.out.size))
    have HR2 := Lib.hid (Reads.up HR1.out hb)
    clear hg hb HR1 HB7
    have HQA := Lib.hid (show Calls Tryz.prog 19 #[gval A5 3 3 B5 2 2] w5 fun e w' => (∃ A c, e = .returned (.tuple #[.slice A 13 c, .int .i64 0])) ∧ Below w5.heap.size w5 w' from by
      have h := hA lineG A5 3 B5 2 w5 (TabV.up HTW.out (HB4.out.trans (HB8.out.mono HB4.out.size))) HG.out
      rw [line_ae] at h
      refine h.mono ?_
      rintro e w' ⟨⟨v, rfl, A, c, rfl, _⟩, hb⟩
      exact ⟨⟨A, c, by rw [line_al]; rfl⟩, hb⟩)
    go_wp2_with fail
    refine HQA.out.mono ?_
    rintro e w6 ⟨⟨A6, c6, rfl⟩, hb⟩
    have HB9 := Lib.hid (HB8.out.trans (hb.mono HB8.out.size))
    have HR3 := Lib.hid (Reads.up HR2.out hb)
    have HP9 := Lib.hid (HP4.out.up HB9.out)
    have HX9 := Lib.hid (HBX.out.up HB9.out)
    have HBW := Lib.hid (HB4.out.trans (HB9.out.mono HB4.out.size))
    clear hb HB8 HR2 HP4 HBX HB4 HG HQA HB9
    obtain ⟨c0, c1⟩ := HX9.out.cells
    obtain ⟨W7, hW7⟩ : ∃ W7, W7 = (w6.alloc (.cells #[.int .i64 0, .int .i64 1] 3)).alloc (.cells #[.int .i64 0] 3) := ⟨_, rfl⟩
    have hb7 : Below w6.heap.size w6 W7 := by rw [hW7]; exact ((Below.refl _ _).alloc (Nat.le_refl _) _).alloc (by simp) _
    have HSM := Lib.hid (show Calls Tryz.prog 20 #[gval X1 2 x1 Y1 1 y1, gval (some ⟨w6.heap.size, 0, none⟩) 2 2 (some ⟨w6.heap.size + 1, 0, none⟩) 1 1] W7 _ from by
      have q1 : Ints W7 W7.heap.size (some ⟨w6.heap.size, 0, none⟩) [0, 1] := by rw [hW7]; exact reads_lit7 (heap_two _ _ _) rfl (by simp; omega)
      have q2 : Ints W7 W7.heap.size (some ⟨w6.heap.size + 1, 0, none⟩) [0] := by rw [hW7]; exact reads_lit7 (heap_two' _ _ _) rfl (by simp)
      have h := same7_any ⟨[0, 1], [0]⟩ ⟨[0, 1], [0]⟩ X1 x1 Y1 y1 (some ⟨w6.heap.size, 0, none⟩) 2 (some ⟨w6.heap.size + 1, 0, none⟩) 1 W7 (by unfold maxLen; simp) (by unfold maxLen; simp) (Reads.up HP9.out.ns hb7) (Reads.up HP9.out.es hb7) q1 q2
      rw [decide_eq_true rfl] at h
      exact h)
    have HR4 := Lib.hid (Reads.up HR3.out hb7)
    have HBW7 := Lib.hid (HBW.out.trans (hb7.mono HBW.out.size))
    go_wp2_with fail
    rw [← hW7]
    clear hW7 hb7 HR3 HP9 HBW c0 c1 HX9
    refine HSM.out.mono ?_
    rintro e w8 ⟨rfl, hb⟩
    have HR5 := Lib.hid (Reads.up HR4.out hb)
    have HBW8 := Lib.hid (HBW7.out.trans (hb.mono HBW7.out.size))
    clear hb HR4 HBW7 HSM
    have hb9 : Below w8.heap.size w8 (w8.alloc (.cells #[.int .i64 1] 3)) := (Below.refl _ _).alloc (Nat.le_refl _) _
    have HEQ := Lib.hid (show Calls Tryz.prog 16 #[.slice X2 1 x2, .slice (some ⟨w8.heap.size, 0, none⟩) 1 1] (w8.alloc (.cells #[.int .i64 1] 3)) _ from by
      have h := equal_any [1] [1] X2 (some ⟨w8.heap.size, 0, none⟩) _ _ x2 1 (w8.alloc (.cells #[.int .i64 1] 3)) (by unfold maxLen; simp) (Reads.up HR5.out hb9) (reads_lit7 (heap_alloc_new _ _) rfl (Nat.lt_succ_self _))
      rw [decide_eq_true rfl] at h
      exact h)
    have HBW9 := Lib.hid (HBW8.out.trans (hb9.mono HBW8.out.size))
    clear hb9 HR5
    go_wp2_with fail
    refine HEQ.out.mono ?_
    rintro e w9 ⟨rfl, hb⟩
    have HBZ := Lib.hid (HBW9.out.trans (hb.mono HBW9.out.size))
    clear hb
    go_wp2_with fail
    go_ret
    exact ⟨rfl, HBZ.out⟩

end Go.Proofs.YthnhacncnhknnaaGreatDoor

/-
  SubgraphImage. Printed by mkl4.py.
-/
namespace Go.Proofs.YthnhacncnhknnaaGreatDoor
open Go.RowKit Go.Shelf

/-- the reference's Same, of two equal ones -/
theorem same7_refl (a : Mo) (An : Option Addr) (cn : Nat) (Ae : Option Addr) (ce : Nat) (Bn : Option Addr) (dn : Nat) (Be : Option Addr) (de : Nat) (w : World) (l : a.ns.length ≤ maxLen ∧ a.es.length ≤ maxLen)
    (ha : Ints w w.heap.size An a.ns) (ha2 : Ints w w.heap.size Ae a.es) (hb : Ints w w.heap.size Bn a.ns) (hb2 : Ints w w.heap.size Be a.es) :
    Calls Tryz.prog 20 #[gval An a.ns.length cn Ae a.es.length ce, gval Bn a.ns.length dn Be a.es.length de] w fun e w' => e = .returned (.bool true) ∧ Below w.heap.size w w' := by
  have h := same7_any a a An cn Ae ce Bn dn Be de w l.1 l.2 ha ha2 hb hb2
  rw [decide_eq_true rfl] at h
  exact h
end Go.Proofs.YthnhacncnhknnaaGreatDoor

/-
  SubgraphClose. Printed by mkl5.py.
-/
namespace Go.Proofs.YthnhacncnhknnaaGreatDoor
open Go.RowKit Go.Shelf

theorem copyG7 (g : Gr) (An : Option Addr) (cn : Nat) (Ae : Option Addr) (ce : Nat) (w : World) (hf : g.ns.length ≤ 1000 ∧ g.es.length ≤ 1000) (hT : GrAt w An cn Ae ce g) :
    Calls Tryz.prog 7 #[gval An g.ns.length cn Ae g.es.length ce] w fun e w' => (∃ Xn xn Xe xe, e = .returned (gval Xn g.ns.length xn Xe g.es.length xe) ∧ GrAt w' Xn xn Xe xe g) ∧ Below w.heap.size w w' := by
  refine (copied_any g An cn Ae ce w hf hT).mono ?_
  rintro e w' ⟨⟨v, u, rfl, h1, h2⟩, hb⟩
  obtain ⟨A1, c1, rfl, r1, a1, b1⟩ := h1.reads_cap
  obtain ⟨A2, c2, rfl, r2, a2, b2⟩ := h2.reads_cap
  exact ⟨⟨A1, c1, A2, c2, rfl, ⟨r1, r2, ⟨a1, b1⟩, ⟨a2, b2⟩⟩⟩, hb⟩
theorem clone7 (l : List Int) (A : Option Addr) (c : Nat) (w : World) (hl : l.length ≤ 1000) (hA : Ints w w.heap.size A l) :
    Calls Tryz.prog 27 #[.slice A l.length c] w fun e w' => (∃ X x, e = .returned (.slice X l.length x) ∧ Ints w' w'.heap.size X l) ∧ Below w.heap.size w w' := by
  refine (cloneI_any l A w.heap.size c w (by omega) hA).mono ?_
  rintro e w' ⟨v, rfl, ho, hb⟩
  obtain ⟨X, x, rfl, hr⟩ := OwnE.reads ho
  exact ⟨⟨X, x, rfl, hr⟩, hb⟩
theorem made_ok {g : Gr} (h : validE g = 0) (set : Nat) : PartOk g (madeP g set) := least_ok h _ _
theorem close_in {g : Gr} {vs xs : List Int} (h : closeE g vs xs = 0) (set : Nat) (hi : inP ⟨vs, xs⟩ (madeP g set) = true) : inP (closeP g vs xs) (madeP g set) = true := by
  obtain ⟨h1, h2, h3⟩ := close_zero.1 h
  obtain ⟨i1, i2⟩ := inP_iff.1 hi
  unfold closeP
  rw [if_pos h]
  exact inP_iff.2 (least_in h1 (made_ok h1 set) (fun i _ hb => i1 _ (inB_iff.1 hb)) (fun i _ hb => i2 _ (inB_iff.1 hb)))
theorem part_len {g : Gr} {p : Mo} (hv : validE g = 0) (h : PartOk g p) : p.ns.length ≤ 1000 ∧ p.es.length ≤ 1000 := by
  obtain ⟨v1, v2, _⟩ := valid_zero hv
  have := asc_len h.an h.rn
  have := asc_len h.ae h.re
  omega
end Go.Proofs.YthnhacncnhknnaaGreatDoor
