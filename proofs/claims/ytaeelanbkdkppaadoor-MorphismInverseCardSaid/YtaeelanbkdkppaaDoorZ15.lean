import Derived.Test.YtaeelanbkdkppaaDoorZ13
import Derived.Test.YtaeelanbkdkppaaDoorZ14
import Derived.Test.YtaeelanbkdkppaaDoorZ07
import Derived.Lay
import Derived.MakeChecks
import Derived.Lib.LaidTab
import Derived.Test.YtaeelanbkdkppaaDoorRows
/-
  few and copied of the laws. Printed by mklaw6.py.
-/
namespace Go.Proofs.YtaeelanbkdkppaaDoor
open Go.RowKit Go.Shelf

set_option maxRecDepth 100000 in
set_option maxHeartbeats 4000000 in
theorem copiedM_any (m : Mo) (Mn : Option Addr) (mn : Nat) (Me : Option Addr) (me : Nat) (w : World) (hm1 : Ints w w.heap.size Mn m.ns) (hm2 : Ints w w.heap.size Me m.es) (lm1 : m.ns.length ≤ 1000) (lm2 : m.es.length ≤ 1000) :
    Calls Tryd.prog 13 #[gval Mn m.ns.length mn Me m.es.length me] w fun e w' => (∃ v u, e = .returned (.agg #[v, u]) ∧ OwnI w' w.heap.size v (m.ns) ∧ OwnI w' w.heap.size u (m.es)) ∧ Below w.heap.size w w' := by
  have hS0 : SR w _ ((w.alloc (.cells #[.slice Mn m.ns.length mn, .slice Me m.es.length me] 27)).alloc (.cells #[.slice none 0 0, .slice none 0 0] 27)) := SR.push (SR.push (SR.nil w) rfl _ _ _) (by simp) _ _ _
  have HN1 := Lib.hid (fun u (hu : Below w.heap.size w u) => cloneI_any m.ns Mn u.heap.size mn u (by omega) (Reads.up hm1 hu))
  have HN2 := Lib.hid (fun u (hu : Below w.heap.size w u) => cloneI_any m.es Me u.heap.size me u (by omega) (Reads.up hm2 hu))
  clear hm1 hm2
  generalize m.ns = L1 at *
  generalize m.es = L2 at *
  go_enter Tryd.func13, Tryd.ntmps13
  go_wp2_with fail
  generalize hw1 : ((w.alloc (.cells #[.slice Mn L1.length mn, .slice Me L2.length me] 27)).alloc (.cells #[.slice none 0 0, .slice none 0 0] 27)) = w1 at *
  clear hw1
  have HS := Lib.hid hS0
  have HWS : Hid (w.heap.size ≤ w1.drew.heap.size) := Lib.hid hS0.1.size
  clear hS0
  obtain ⟨c0x, c0y⟩ := HS.out.cell (i := 0) rfl
  obtain ⟨c1x, c1y⟩ := HS.out.cell (i := 1) rfl
  simp only [Nat.add_zero] at c0x c0y
  have fr0 := HS.out.free (i := 1) rfl 0
  have fr1 := HS.out.free (i := 1) rfl 1
  have HSd : Hid (SR w _ w1.drew) := Lib.hid (HS.out.up (below_d _))
  have HS1 : Hid ((fun u : World => u.cell? ⟨w.heap.size, 0, none⟩ = some (.slice Mn L1.length mn) ∧ u.cell? ⟨w.heap.size, 1, none⟩ = some (.slice Me L2.length me)) w1.drew) := Lib.hid ⟨c0x, c0y⟩
  have HUP : Hid (∀ u u', (fun u : World => u.cell? ⟨w.heap.size, 0, none⟩ = some (.slice Mn L1.length mn) ∧ u.cell? ⟨w.heap.size, 1, none⟩ = some (.slice Me L2.length me)) u → Below u.heap.size u u' → (fun u : World => u.cell? ⟨w.heap.size, 0, none⟩ = some (.slice Mn L1.length mn) ∧ u.cell? ⟨w.heap.size, 1, none⟩ = some (.slice Me L2.length me)) u') := Lib.hid fun u u' h hb => ⟨cell_up hb (h.1), cell_up hb (h.2)⟩
  clear c0x c0y c1x c1y fr0 fr1
  refine wp_region_noPanic ?_
  refine wp_region_held_drew (S := (fun u : World => u.cell? ⟨w.heap.size, 0, none⟩ = some (.slice Mn L1.length mn) ∧ u.cell? ⟨w.heap.size, 1, none⟩ = some (.slice Me L2.length me))) (by kernel_rfl) (HS1.out) (fun hHeld => ?_)
  refine wpAnyH_take (i := 0) (v := ?_) (oper_at (r := _) rfl) (by kernel_rfl) (by kernel_rfl) (by kernel_rfl) (fun _ _ _ h => h) (Or.inl ⟨by rfl, ?_⟩) (by assumption) ?_
  rotate_left
  · intro w hSw; try dsimp only at hSw
    go_simp
    try with_reducible rfl
  try simp only [Act.put, List.setIfInBounds_toArray, List.set_cons_zero, List.set_cons_succ]
  refine wpAnyH_take (i := 1) (v := ?_) (oper_at (r := _) rfl) (by kernel_rfl) (by kernel_rfl) (by kernel_rfl) (fun _ _ _ h => h) (Or.inl ⟨by rfl, ?_⟩) (by assumption) ?_
  rotate_left
  · intro w hSw; try dsimp only at hSw
    go_simp
    try with_reducible rfl
  try simp only [Act.put, List.setIfInBounds_toArray, List.set_cons_zero, List.set_cons_succ]
  refine wpAnyH_take (i := 3) (v := ?_) (oper_at (r := _) rfl) (by kernel_rfl) (by kernel_rfl) (by kernel_rfl) (fun _ _ _ h => h) (Or.inl ⟨by rfl, ?_⟩) (by assumption) ?_
  rotate_left
  · intro w hSw; try dsimp only at hSw
    go_simp
    try with_reducible rfl
  try simp only [Act.put, List.setIfInBounds_toArray, List.set_cons_zero, List.set_cons_succ]
  refine wpAnyH_take (i := 4) (v := ?_) (oper_at (r := _) rfl) (by kernel_rfl) (by kernel_rfl) (by kernel_rfl) (fun _ _ _ h => h) (Or.inl ⟨by rfl, ?_⟩) (by assumption) ?_
  rotate_left
  · intro w hSw; try dsimp only at hSw
    go_simp
    try with_reducible rfl
  try simp only [Act.put, List.setIfInBounds_toArray, List.set_cons_zero, List.set_cons_succ]
  refine wpAnyH_ready (rs := [2]) (by kernel_rfl) (by simp) ?_
  refine AllReadyH.cons (oper_at (r := _) rfl) (fun K hK => ?_) AllReadyH.nil
  go_simp
  refine (HN1.out _ HSd.out.1).mono ?_
  rintro e w2 ⟨v2, rfl, ho2, hb2⟩
  have HS2 := Lib.hid (HUP.out _ _ HS1.out hb2)
  have HLE := Lib.hid hb2.size
  have HSR2 := Lib.hid (HSd.out.up hb2)
  have HO2 := Lib.hid ho2
  obtain ⟨A2, d2, rfl⟩ := OwnE.slice ho2
  clear ho2 hb2
  go_wp2_with fail
  refine hK.out _ _ (HS2.out) (fun _ => ?_)
  clear hK K
  try simp only [Act.put, List.setIfInBounds_toArray, List.set_cons_zero, List.set_cons_succ]
  refine wpAnyH_ready (rs := [5]) (by kernel_rfl) (by simp) ?_
  refine AllReadyH.cons (oper_at (r := _) rfl) (fun K hK => ?_) AllReadyH.nil
  go_simp
  refine (HN2.out _ HSR2.out.1).mono ?_
  rintro e w3 ⟨v3, rfl, ho3, hb3⟩
  have HS3 := Lib.hid (HUP.out _ _ HS2.out hb3)
  have HSR3 := Lib.hid (HSR2.out.up hb3)
  have HOO := Lib.hid (OwnE.below HO2.out hb3 (Nat.le_refl _))
  have HO3 := Lib.hid ho3
  obtain ⟨A3, d3, rfl⟩ := OwnE.slice ho3
  clear ho3 hb3 HO2
  go_wp2_with fail
  refine hK.out _ _ (HS3.out) (fun _ => ?_)
  clear hK K
  try simp only [Act.put, List.setIfInBounds_toArray, List.set_cons_zero, List.set_cons_succ]
  refine wpAnyH_take (i := 6) (v := ?_) (oper_at (r := _) rfl) (by kernel_rfl) (by kernel_rfl) (by kernel_rfl) (fun _ _ _ h => h) (Or.inl ⟨by rfl, ?_⟩) (by assumption) ?_
  rotate_left
  · intro w hSw; try dsimp only at hSw
    go_simp
    try with_reducible rfl
  try simp only [Act.put, List.setIfInBounds_toArray, List.set_cons_zero, List.set_cons_succ]
  obtain ⟨c1x, c1y⟩ := HSR3.out.cell (i := 1) rfl
  have fr0 := HSR3.out.free (i := 1) rfl 0
  have fr1 := HSR3.out.free (i := 1) rfl 1
  have HSZ := Lib.hid (HSR3.out.set (i := 1) rfl (.slice A2 L1.length d2) (.slice A3 L2.length d3))
  obtain ⟨z0x, z0y⟩ := HSZ.out.cell (i := 0) rfl
  simp only [Nat.add_zero] at z0x z0y
  have HS4 : Hid ((fun u : World => u.cell? ⟨w.heap.size, 0, none⟩ = some (.slice Mn L1.length mn) ∧ u.cell? ⟨w.heap.size, 1, none⟩ = some (.slice Me L2.length me)) _) := Lib.hid ⟨z0x, z0y⟩
  clear z0x z0y
  refine wpAnyH_ready (rs := [7]) (by kernel_rfl) (by simp) ?_
  refine AllReadyH.cons (oper_at (r := _) rfl) (fun K hK => ?_) AllReadyH.nil
  go_simp
  refine hK.out _ _ (HS4.out) (fun _ => ?_)
  clear hK K
  try simp only [Act.put, List.setIfInBounds_toArray, List.set_cons_zero, List.set_cons_succ]
  refine wpAnyH_done (by kernel_rfl) ?_ _
  refine NoPanic.normal ?_
  go_wp2_with fail
  obtain ⟨r0, r1⟩ := HSZ.out.cell (i := 1) rfl
  have hlt : w.heap.size + 1 < w1.heap.size := heap_lt (HS.out.2 1 _ rfl)
  have hsd := HSR2.out.1.size
  have hle : w1.drew.heap.size ≤ w2.heap.size := HLE.out
  refine bodyPost_ret (v := .agg #[.slice A2 L1.length d2, .slice A3 L2.length d3]) (by simp [results, Tryd.results13, go_sem, r0, r1]) rfl ?_
  have s1 : OwnI ((w3.setCell ⟨w.heap.size + 1, 0, none⟩ (.slice A2 L1.length d2)).setCell ⟨w.heap.size + 1, 1, none⟩ (.slice A3 L2.length d3)) _ _ _ := ownsRow_setCell_below (ownsRow_setCell_below HOO.out (by show w.heap.size + 1 < w1.heap.size; exact hlt) _) (by show w.heap.size + 1 < w1.heap.size; exact hlt) _
  have s2 : OwnI ((w3.setCell ⟨w.heap.size + 1, 0, none⟩ (.slice A2 L1.length d2)).setCell ⟨w.heap.size + 1, 1, none⟩ (.slice A3 L2.length d3)) _ _ _ := ownsRow_setCell_below (ownsRow_setCell_below HO3.out (by show w.heap.size + 1 < w2.heap.size; exact Nat.lt_of_lt_of_le hlt hle) _) (by show w.heap.size + 1 < w2.heap.size; exact Nat.lt_of_lt_of_le hlt hle) _
  exact ⟨⟨_, _, rfl, s1.mono HWS.out, s2.mono (Nat.le_trans HWS.out hle)⟩, HSZ.out.1⟩

/-- an arrow as the laws are given it -/
structure Ar where
  g : Gr
  m : Mo
  An : Option Addr
  cn : Nat
  Ae : Option Addr
  ce : Nat
  Mn : Option Addr
  mn : Nat
  Me : Option Addr
  me : Nat
def Ar.val (x : Ar) : Value := .agg #[.slice x.An x.g.ns.length x.cn, .slice x.Ae x.g.es.length x.ce, .slice x.Mn x.m.ns.length x.mn, .slice x.Me x.m.es.length x.me]
structure ArAt (w : World) (x : Ar) : Prop where
  gr : GrAt w x.An x.cn x.Ae x.ce x.g
  m1 : Ints w w.heap.size x.Mn x.m.ns
  m2 : Ints w w.heap.size x.Me x.m.es
  l1 : x.m.ns.length ≤ 1152921504606846976
  l2 : x.m.es.length ≤ 1152921504606846976
theorem ArAt.up {w w' : World} {x : Ar} (h : ArAt w x) (hb : Below w.heap.size w w') : ArAt w' x := ⟨h.gr.up hb, Reads.up h.m1 hb, Reads.up h.m2 hb, h.l1, h.l2⟩
def fewA (x : Ar) : Bool := fewB x.g && fewM x.m 140
/-- a block of arrows -/
def ArsAt (u : World) (b : Nat) (L : List Ar) : Prop := b < u.heap.size ∧ ∀ i (h : i < L.length), u.cell? ⟨b, i * 4, none⟩ = some (.slice L[i].An L[i].g.ns.length L[i].cn) ∧ u.cell? ⟨b, i * 4 + 1, none⟩ = some (.slice L[i].Ae L[i].g.es.length L[i].ce) ∧ u.cell? ⟨b, i * 4 + 2, none⟩ = some (.slice L[i].Mn L[i].m.ns.length L[i].mn) ∧ u.cell? ⟨b, i * 4 + 3, none⟩ = some (.slice L[i].Me L[i].m.es.length L[i].me)
theorem ArsAt.up {u u' : World} {b : Nat} {L : List Ar} (h : ArsAt u b L) (hb : Below u.heap.size u u') : ArsAt u' b L :=
  ⟨Nat.lt_of_lt_of_le h.1 hb.size, fun i hi => ⟨cell_up hb (h.2 i hi).1, cell_up hb (h.2 i hi).2.1, cell_up hb (h.2 i hi).2.2.1, cell_up hb (h.2 i hi).2.2.2⟩⟩

set_option maxRecDepth 100000 in
set_option maxHeartbeats 2000000 in
theorem fewL_any (a : Gr) (L : List Ar) (An : Option Addr) (cn : Nat) (Ae : Option Addr) (ce : Nat) (b c : Nat) (w : World) (hl : L.length ≤ 10) (hT : GrAt w An cn Ae ce a) (hL : ∀ x ∈ L, ArAt w x) (hB : ArsAt w b L) :
    Calls Tryd.prog 11 #[gval An a.ns.length cn Ae a.es.length ce, .slice (some ⟨b, 0, none⟩) L.length c] w fun e w' => e = .returned (.bool (L.all fewA && fewB a)) ∧ Below w.heap.size w w' := by
  have HB := Lib.hid (fun (u : World) (hu : Below w.heap.size w u) => hB.up hu)
  have HL := Lib.hid (fun (u : World) (hu : Below w.heap.size w u) x hx => (hL x hx).up hu)
  have HT := Lib.hid (fun (u : World) (hu : Below w.heap.size w u) => few_any a An cn Ae ce u (hT.up hu))
  have HALL : Hid ((∀ i (h : i < L.length), fewA L[i] = true) → L.all fewA = true) := Lib.hid fun h => List.all_eq_true.2 fun x hx => by
    obtain ⟨i, hi, rfl⟩ := List.mem_iff_getElem.1 hx
    exact h i hi
  have HNOT : Hid (∀ i (h : i < L.length), fewA L[i] = false → L.all fewA = false) := Lib.hid fun i hi hf => Bool.eq_false_iff.2 fun h => by
    have := List.all_eq_true.1 h _ (List.getElem_mem hi)
    rw [hf] at this; cases this
  have HFA : Hid (∀ x, fewA x = (fewB x.g && fewM x.m 140)) := Lib.hid fun _ => rfl
  clear hB hL hT
  generalize L.all fewA = Q at *
  generalize fewB a = R at *
  generalize fewA = FA at *
  have hB0 : Below w.heap.size w (w.alloc (.cells #[.slice An a.ns.length cn, .slice Ae a.es.length ce] 25)) := (Below.refl _ _).alloc (Nat.le_refl _) _
  have hx0 := heap_alloc_new w (.cells #[.slice An a.ns.length cn, .slice Ae a.es.length ce] 25)
  have HB0 := Lib.hid hB0
  have HX0 := Lib.hid hx0
  clear hB0 hx0
  go_enter Tryd.func11, Tryd.ntmps11
  go_wp2_with fail
  go_loopw [9] (fun v wr => ∃ i : Nat, i ≤ L.length ∧ v = .int .i64 (i : Int) ∧ Below w.heap.size w wr ∧ wr.heap[w.heap.size]? = some (.cells #[.slice An a.ns.length cn, .slice Ae a.es.length ce] 25 (0, 0)) ∧ ∀ j (h : j < L.length), j < i → FA L[j] = true) (fun v _ => L.length - (intOf v).toNat)
  case atStart => exact ⟨0, Nat.zero_le _, rfl, HB0.out, HX0.out, fun j h h2 => by omega⟩
  case round =>
    obtain ⟨i, hi, rfl, hbel, hbx, hs⟩ := hrel
    have HS := Lib.hid hs
    have HBL := Lib.hid hbel
    have HBX := Lib.hid hbx
    clear hs
    by_cases hlt : i < L.length
    · obtain ⟨hbl, hcs⟩ := HB.out wr hbel
      obtain ⟨c1, c2, c3, c4⟩ := hcs i hlt
      have hAr := HL.out wr hbel _ (List.getElem_mem hlt)
      have HF := Lib.hid (HFA.out L[i])
      have HNI := Lib.hid (HNOT.out i hlt)
      have HNX : Hid (FA L[i] = true → ∀ j (h : j < L.length), j < i + 1 → FA L[j] = true) := Lib.hid fun he j h h2 => by
        by_cases e : j = i
        · subst e; exact he
        · exact HS.out j h (by omega)
      have HLT := Lib.hid hlt
      have hi0 : (0 : Int) ≤ (i : Int) := by omega
      have hi1 : (i : Int) < (L.length : Int) := by omega
      have hi2 : ((i : Int)).toNat = i := by omega
      have HM : Hid (L.length - ((i : Int) + 1).toNat < L.length - ((i : Int)).toNat) := Lib.hid (by omega)
      clear hcs HB HL
      generalize L[i] = x at *
      obtain ⟨g, m, Xn, xn, Xe, xe, Mn, mn, Me, me⟩ := x
      dsimp only at c1 c2 c3 c4 HF
      obtain ⟨r1, r2, r3, l1, l2⟩ := hAr
      dsimp only at r1 r2 r3 l1 l2
      have HG1 := Lib.hid (fun (u : World) (hu : Below wr.heap.size wr u) => few_any g Xn xn Xe xe u (r1.up hu))
      have HG2 := Lib.hid (fun u => fewM_any m 140 Mn mn Me me u l1 l2)
      clear r1 r2 r3 l1 l2
      generalize fewB g = f1 at *
      generalize fewM m 140 = f2 at *
      go_upto_region 4 with fail
      generalize hW : wr.alloc _ = W1
      have hb1 : Below wr.heap.size wr W1 := by rw [← hW]; exact (Below.refl _ _).alloc (Nat.le_refl _) _
      have hx1 : W1.heap[wr.heap.size]? = some (.cells #[.slice Xn g.ns.length xn, .slice Xe g.es.length xe, .slice Mn m.ns.length mn, .slice Me m.es.length me] 29 (0, 0)) := by rw [← hW]; exact heap_alloc_new _ _
      clear hW c1 c2 c3 c4 hbel hbx
      have d0 := cell_of_row _ _ 0 _ _ _ hx1
      have d1 := cell_of_row _ _ 1 _ _ _ hx1
      simp only [List.getElem?_toArray, List.getElem?_cons_zero, List.getElem?_cons_succ] at d0 d1
      have HX1 := Lib.hid hx1
      have HB1 := Lib.hid hb1
      clear hx1 hb1
      go_wp2_with fail
      refine (HG1.out _ HB1.out).mono ?_
      rintro e w2 ⟨rfl, hb2⟩
      have hx2 := heap_up hb2 HX1.out
      have HB2 := Lib.hid (HB1.out.trans (hb2.mono HB1.out.size))
      have HX2 := Lib.hid hx2
      have d2 := cell_of_row _ _ 2 _ _ _ hx2
      have d3 := cell_of_row _ _ 3 _ _ _ hx2
      simp only [List.getElem?_toArray, List.getElem?_cons_zero, List.getElem?_cons_succ] at d2 d3
      clear hb2 hx2 d0 d1
      cases f1
      · have HQ := Lib.hid (HNI.out (by rw [HF.out]; rfl))
        go_wp2_with fail
        go_ret
        exact ⟨ret_bool (by rw [HQ.out]; rfl), HBL.out.trans (HB2.out.mono HBL.out.size)⟩
      · go_wp2_with fail
        refine (HG2.out _).mono ?_
        rintro e w3 ⟨rfl, hb3⟩
        have HB3 := Lib.hid (HB2.out.trans (hb3.mono HB2.out.size))
        clear hb3 d2 d3
        cases f2
        · have HQ := Lib.hid (HNI.out (by rw [HF.out]; rfl))
          go_wp2_with fail
          go_ret
          exact ⟨ret_bool (by rw [HQ.out]; rfl), HBL.out.trans (HB3.out.mono HBL.out.size)⟩
        · have HN2 := Lib.hid (HNX.out (by rw [HF.out]; rfl))
          have HBN := Lib.hid (HBL.out.trans (HB3.out.mono HBL.out.size))
          have HXN := Lib.hid (heap_up HB3.out HBX.out)
          go_wp2_with fail
          go_roundw
          case rel => exact ⟨i + 1, HLT.out, by go_num, HBN.out, HXN.out, HN2.out⟩
          case measure => exact HM.out
    · obtain rfl : i = L.length := by omega
      have HQ := Lib.hid (HALL.out fun j h => HS.out j h h)
      obtain ⟨c0, c1⟩ := cell2 hbx
      clear hbel hbx
      go_wp2_with fail
      refine (HT.out _ HBL.out).mono ?_
      rintro e w2 ⟨rfl, hb2⟩
      go_wp2_with fail
      go_ret
      exact ⟨ret_bool (by rw [HQ.out]; simp), HBL.out.trans (hb2.mono HBL.out.size)⟩

end Go.Proofs.YtaeelanbkdkppaaDoor

/-
  What the laws of morphisms need: boxes of any number of cells; stores into boxes of slices; the law's guard.
-/
namespace Go.Proofs.YtaeelanbkdkppaaDoor
open Go.RowKit Go.Shelf

/-- since w: boxes in new blocks, one after another -/
def SV (w : World) (L : List (List Value × TypeId)) (u : World) : Prop := Below w.heap.size w u ∧ w.heap.size + L.length ≤ u.heap.size ∧ ∀ (i : Nat) (x : List Value × TypeId), L[i]? = some x → u.heap[w.heap.size + i]? = some (.cells x.1.toArray x.2 (0, 0))
theorem SV.nil (w : World) : SV w [] w := ⟨Below.refl _ _, Nat.le_refl _, fun i x h => by simp at h⟩
theorem SV.push {w u : World} {L : List (List Value × TypeId)} (h : SV w L u) (hs : u.heap.size = w.heap.size + L.length) (cs : List Value) (t : TypeId) : SV w (L ++ [(cs, t)]) (u.alloc (.cells cs.toArray t)) := by
  refine ⟨h.1.alloc (by omega) _, by simp; omega, fun i x hx => ?_⟩
  by_cases hi : i < L.length
  · rw [List.getElem?_append_left hi] at hx
    rw [at_alloc, if_neg (by omega)]
    exact h.2.2 i x hx
  · rw [List.getElem?_append_right (by omega)] at hx
    have h0 : i - L.length = 0 := by
      rcases Nat.eq_zero_or_pos (i - L.length) with h | h
      · exact h
      · rw [List.getElem?_eq_none (by simp; omega)] at hx; cases hx
    rw [h0] at hx
    simp at hx
    subst hx
    rw [at_alloc, if_pos (by omega)]
theorem SV.up {w u u' : World} {L : List (List Value × TypeId)} (h : SV w L u) (hb : Below u.heap.size u u') : SV w L u' := ⟨h.1.trans (hb.mono h.1.size), Nat.le_trans h.2.1 hb.size, fun i x hx => heap_up hb (h.2.2 i x hx)⟩
theorem SV.cell {w u : World} {L : List (List Value × TypeId)} (h : SV w L u) {i j : Nat} {x : List Value × TypeId} {v : Value} (hx : L[i]? = some x) (hv : x.1[j]? = some v) : u.cell? ⟨w.heap.size + i, j, none⟩ = some v := by
  rw [cell_of_row _ _ j _ _ _ (h.2.2 i x hx)]
  simpa using hv
theorem SV.set {w u : World} {L : List (List Value × TypeId)} (h : SV w L u) {g : Nat} (hg : w.heap.size + L.length ≤ g) (y z : Value) : SV w L ((u.setCell ⟨g, 0, none⟩ y).setCell ⟨g, 1, none⟩ z) := by
  refine ⟨(h.1.setCell (p := ⟨g, 0, none⟩) (by show w.heap.size ≤ g; omega) y).setCell (p := ⟨g, 1, none⟩) (by show w.heap.size ≤ g; omega) z, by simpa using h.2.1, fun k x hx => ?_⟩
  have hl : k < L.length := (List.getElem?_eq_some_iff.1 hx).1
  exact (heap_setCell_other _ _ _ _ (by show w.heap.size + k ≠ g; omega)).trans ((heap_setCell_other _ _ _ _ (by show w.heap.size + k ≠ g; omega)).trans (h.2.2 k x hx))
/-- a box of two slices -/
def BX (g : Nat) (u v : Value) (t : TypeId) (W : World) : Prop := W.heap[g]? = some (.cells #[u, v] t (0, 0))
theorem BX.up {g : Nat} {u v : Value} {t : TypeId} {W W' : World} (h : BX g u v t W) (hb : Below W.heap.size W W') : BX g u v t W' := heap_up hb h
theorem BX.cells {g : Nat} {u v : Value} {t : TypeId} {W : World} (h : BX g u v t W) : W.cell? ⟨g, 0, none⟩ = some u ∧ W.cell? ⟨g, 1, none⟩ = some v := cell2 h
theorem BX.free {g : Nat} {u v : Value} {t : TypeId} {W : World} (h : BX g u v t W) (j : Nat) : W.frozen? ⟨g, j, none⟩ = false := frozen_of_row _ _ _ _ _ h
theorem BX.lt {g : Nat} {u v : Value} {t : TypeId} {W : World} (h : BX g u v t W) : g < W.heap.size := heap_lt h
theorem BX.far {g k : Nat} {u v : Value} {t : TypeId} {W : World} (h : BX g u v t W) (hk : g ≠ k) (y z : Value) : BX g u v t ((W.setCell ⟨k, 0, none⟩ y).setCell ⟨k, 1, none⟩ z) :=
  (heap_setCell_other _ _ _ _ (by show g ≠ k; exact hk)).trans ((heap_setCell_other _ _ _ _ (by show g ≠ k; exact hk)).trans h)
theorem BX.put {g : Nat} {u v : Value} {t : TypeId} {W : World} (h : BX g u v t W) (y z : Value) : BX g y z t ((W.setCell ⟨g, 0, none⟩ y).setCell ⟨g, 1, none⟩ z) := store2 (h := g) ⟨_, _, h⟩ y z
/-- a store into a box of slices turns no slice of numbers -/
theorem ints_set {w : World} {B : Nat} {A : Option Addr} {xs : List Int} (h : Ints w B A xs) {g : Nat} {a a' : Option Addr} {n c n' c' : Nat} {t : TypeId} (hb : BX g (.slice a n c) (.slice a' n' c') t w) (y z : Value) : Ints ((w.setCell ⟨g, 0, none⟩ y).setCell ⟨g, 1, none⟩ z) B A xs := by
  rcases h with h | ⟨b, off, h1, h2, h3⟩
  · exact .inl h
  · refine .inr ⟨b, off, h1, h2, fun i x hx q u hu => ?_⟩
    have hc := h3 i x hx q u hu
    have hne : g ≠ b := fun e => by
      subst e
      rw [cell_of_row _ _ _ _ _ _ hb] at hc
      have hm : u ∈ (#[Value.slice a n c, Value.slice a' n' c'] : Array Value) := Array.mem_of_getElem? hc
      have hm2 : u = .int .i64 x := by simpa [EInt] using List.mem_of_getElem? hu
      subst hm2
      simp at hm
    rw [World.cell?_setCell_far _ _ _ _ hne, World.cell?_setCell_far _ _ _ _ hne]
    exact hc
theorem ints_set' {w : World} {A : Option Addr} {xs : List Int} (h : Ints w w.heap.size A xs) {g : Nat} {a a' : Option Addr} {n c n' c' : Nat} {t : TypeId} (hb : BX g (.slice a n c) (.slice a' n' c') t w) (y z : Value) : Ints ((w.setCell ⟨g, 0, none⟩ y).setCell ⟨g, 1, none⟩ z) ((w.setCell ⟨g, 0, none⟩ y).setCell ⟨g, 1, none⟩ z).heap.size A xs := by
  have := ints_set h hb y z
  simpa using this
theorem awk {w : World} (h00 : 0 < w.heap.size) (hT : TabW w) (u : World) (hu : Below w.heap.size w u) : Calls Tryd.prog 10 #[] u fun e w' => e = .returned (.bool true) ∧ Below u.heap.size u w' :=
  awake_any u (Nat.lt_of_lt_of_le h00 hu.size) (hT.up (hu.block 0 h00))
theorem fewA_len {x : Ar} (h : fewA x = true) : x.m.ns.length ≤ 1000 ∧ x.m.es.length ≤ 1000 := by
  unfold fewA fewM at h
  rw [Bool.and_eq_true, decide_eq_true_iff] at h
  omega
theorem fewM_len {m : Mo} (h : fewM m 140 = true) : m.ns.length ≤ 1000 ∧ m.es.length ≤ 1000 := by
  unfold fewM at h
  rw [decide_eq_true_iff] at h
  omega
theorem ars_one (W : World) (x : Ar) (t : TypeId) : ArsAt (W.alloc (.cells #[.slice x.An x.g.ns.length x.cn, .slice x.Ae x.g.es.length x.ce, .slice x.Mn x.m.ns.length x.mn, .slice x.Me x.m.es.length x.me] t)) W.heap.size [x] := by
  have hx := heap_alloc_new W (.cells #[.slice x.An x.g.ns.length x.cn, .slice x.Ae x.g.es.length x.ce, .slice x.Mn x.m.ns.length x.mn, .slice x.Me x.m.es.length x.me] t)
  refine ⟨by simp, fun i h => ?_⟩
  obtain rfl : i = 0 := by simp at h; exact h
  exact ⟨cell_of_row _ _ 0 _ _ _ hx, cell_of_row _ _ 1 _ _ _ hx, cell_of_row _ _ 2 _ _ _ hx, cell_of_row _ _ 3 _ _ _ hx⟩
theorem ars_two (W : World) (x y : Ar) (t : TypeId) : ArsAt (W.alloc (.cells #[.slice x.An x.g.ns.length x.cn, .slice x.Ae x.g.es.length x.ce, .slice x.Mn x.m.ns.length x.mn, .slice x.Me x.m.es.length x.me, .slice y.An y.g.ns.length y.cn, .slice y.Ae y.g.es.length y.ce, .slice y.Mn y.m.ns.length y.mn, .slice y.Me y.m.es.length y.me] t)) W.heap.size [x, y] := by
  have hx := heap_alloc_new W (.cells #[.slice x.An x.g.ns.length x.cn, .slice x.Ae x.g.es.length x.ce, .slice x.Mn x.m.ns.length x.mn, .slice x.Me x.m.es.length x.me, .slice y.An y.g.ns.length y.cn, .slice y.Ae y.g.es.length y.ce, .slice y.Mn y.m.ns.length y.mn, .slice y.Me y.m.es.length y.me] t)
  refine ⟨by simp, fun i h => ?_⟩
  have hi : i = 0 ∨ i = 1 := by simp at h; omega
  rcases hi with rfl | rfl
  · exact ⟨cell_of_row _ _ 0 _ _ _ hx, cell_of_row _ _ 1 _ _ _ hx, cell_of_row _ _ 2 _ _ _ hx, cell_of_row _ _ 3 _ _ _ hx⟩
  · exact ⟨cell_of_row _ _ 4 _ _ _ hx, cell_of_row _ _ 5 _ _ _ hx, cell_of_row _ _ 6 _ _ _ hx, cell_of_row _ _ 7 _ _ _ hx⟩
/-- copied, as a contract that hands over what can be read -/
theorem copied2 (m : Mo) (Mn : Option Addr) (mn : Nat) (Me : Option Addr) (me : Nat) (u : World) (h1 : Ints u u.heap.size Mn m.ns) (h2 : Ints u u.heap.size Me m.es) (l1 : m.ns.length ≤ 1000) (l2 : m.es.length ≤ 1000) :
    Calls Tryd.prog 13 #[gval Mn m.ns.length mn Me m.es.length me] u fun e w' => (∃ Xn xn Xe xe, e = .returned (gval Xn m.ns.length xn Xe m.es.length xe) ∧ Ints w' w'.heap.size Xn m.ns ∧ Ints w' w'.heap.size Xe m.es) ∧ Below u.heap.size u w' := by
  refine (copiedM_any m Mn mn Me me u h1 h2 l1 l2).mono ?_
  rintro e w' ⟨⟨v, x, rfl, o1, o2⟩, hb⟩
  have r1 := isI_own o1
  have r2 := isI_own o2
  obtain ⟨A1, d1, rfl⟩ := OwnE.slice o1
  obtain ⟨A2, d2, rfl⟩ := OwnE.slice o2
  obtain ⟨B1, k1, e1, q1, _⟩ := r1
  obtain ⟨B2, k2, e2, q2, _⟩ := r2
  injection e1 with e1 _ e3
  injection e2 with e2 _ e4
  subst e1 e2 e3 e4
  exact ⟨⟨_, _, _, _, rfl, q1, q2⟩, hb⟩
/-- the reference's Same, of two equal ones -/
theorem sameR_refl (a : Mo) (An : Option Addr) (cn : Nat) (Ae : Option Addr) (ce : Nat) (Bn : Option Addr) (dn : Nat) (Be : Option Addr) (de : Nat) (w : World) (l : a.ns.length ≤ maxLen ∧ a.es.length ≤ maxLen)
    (ha : Ints w w.heap.size An a.ns) (ha2 : Ints w w.heap.size Ae a.es) (hb : Ints w w.heap.size Bn a.ns) (hb2 : Ints w w.heap.size Be a.es) :
    Calls Tryd.prog 23 #[gval An a.ns.length cn Ae a.es.length ce, gval Bn a.ns.length dn Be a.es.length de] w fun e w' => e = .returned (.bool true) ∧ Below w.heap.size w w' := by
  have h := sameR6_any a a An cn Ae ce Bn dn Be de w l.1 l.2 ha ha2 hb hb2
  rw [decide_eq_true rfl] at h
  exact h
theorem sameM_refl (a : Mo) (An : Option Addr) (cn : Nat) (Ae : Option Addr) (ce : Nat) (Bn : Option Addr) (dn : Nat) (Be : Option Addr) (de : Nat) (w : World) (l : a.ns.length ≤ maxLen ∧ a.es.length ≤ maxLen)
    (ha : Ints w w.heap.size An a.ns) (ha2 : Ints w w.heap.size Ae a.es) (hb : Ints w w.heap.size Bn a.ns) (hb2 : Ints w w.heap.size Be a.es) :
    Calls Tryd.prog 24 #[gval An a.ns.length cn Ae a.es.length ce, gval Bn a.ns.length dn Be a.es.length de] w fun e w' => e = .returned (.bool true) ∧ Below w.heap.size w w' := by
  have h := sameMo_any a a An cn Ae ce Bn dn Be de w l.1 l.2 ha ha2 hb hb2
  rw [decide_eq_true rfl] at h
  exact h
/-- a call that hands over a morphism -/
abbrev GivesM (f : FuncId) (args : Array Value) (E : Nat) (R : Mo) (u : World) : Prop := Calls Tryd.prog f args u fun e w' => (∃ Xn xn Xe xe, e = .returned (.tuple #[gval Xn R.ns.length xn Xe R.es.length xe, .int .i64 (E : Int)]) ∧ Ints w' w'.heap.size Xn R.ns ∧ Ints w' w'.heap.size Xe R.es ∧ R.ns.length ≤ maxLen ∧ R.es.length ≤ maxLen) ∧ Below u.heap.size u w'
theorem givesM {f : FuncId} {args : Array Value} {E : Nat} {R : Mo} {u : World} (h : Calls Tryd.prog f args u fun e w' => (∃ v, e = .returned (.tuple #[v, .int .i64 (E : Int)]) ∧ IsM w' v R) ∧ Below u.heap.size u w') : GivesM f args E R u := by
  refine h.mono ?_
  rintro e w' ⟨⟨v, rfl, Xn, xn, Xe, xe, rfl, hx⟩, hb⟩
  exact ⟨⟨Xn, xn, Xe, xe, rfl, hx.ns, hx.es, Nat.le_trans hx.cn.1 hx.cn.2, Nat.le_trans hx.ce.1 hx.ce.2⟩, hb⟩
/-- the reference's Of -/
theorem of2 (a : Gr) (An : Option Addr) (cn : Nat) (Ae : Option Addr) (ce : Nat) (u : World) (l1 : a.ns.length ≤ 1000) (l2 : a.es.length ≤ 1000) :
    Calls Tryd.prog 29 #[gval An a.ns.length cn Ae a.es.length ce] u fun e w' => (∃ Xn xn Xe xe, e = .returned (gval Xn (idM a).ns.length xn Xe (idM a).es.length xe) ∧ Ints w' w'.heap.size Xn (idM a).ns ∧ Ints w' w'.heap.size Xe (idM a).es) ∧ Below u.heap.size u w' := by
  refine (ofR_any a An cn Ae ce u l1 l2).mono ?_
  rintro e w' ⟨⟨v, x, rfl, o1, o2⟩, hb⟩
  have r1 := isI_own o1
  have r2 := isI_own o2
  obtain ⟨A1, d1, rfl⟩ := OwnE.slice o1
  obtain ⟨A2, d2, rfl⟩ := OwnE.slice o2
  obtain ⟨B1, k1, e1, q1, _⟩ := r1
  obtain ⟨B2, k2, e2, q2, _⟩ := r2
  injection e1 with e1 _ e3
  injection e2 with e2 _ e4
  subst e1 e2 e3 e4
  exact ⟨⟨_, _, _, _, rfl, q1, q2⟩, hb⟩
abbrev R2 (m : Mo) : Prop := m.ns.length ≤ maxLen ∧ m.es.length ≤ maxLen
theorem iso_of {a b : Gr} {m : Mo} (h : invE a b m = 0) : IsoOk a b m := by
  unfold invE at h
  by_cases h1 : morE a b m = 0
  · rw [if_neg (fun k => k h1)] at h
    by_cases h2 : injB a b m = true ∧ surB a b m = true
    · obtain ⟨i1, i2⟩ := (injB_iff.1 h2.1).2
      obtain ⟨s1, s2⟩ := (surB_iff.1 h2.2).2
      exact ⟨mor_zero.1 h1, i1, i2, s1, s2⟩
    · rw [if_neg h2] at h
      cases h
  · rw [if_pos h1] at h
    exact absurd h h1

end Go.Proofs.YtaeelanbkdkppaaDoor

/-
  The arguments of the laws of morphisms, opened; the listed table.
-/
namespace Go.Proofs.YtaeelanbkdkppaaDoor
open Go.RowKit

/-- what the rows list -/
abbrev laidL : List (String × DataW Unit) := [("math/bits.deBruijn64tab", Rows.laid_math_bits_deBruijn64tab)]
theorem tab_of_laid {W : World} (h : laidMetH Tryd.prog laidL W) : TabW W ∧ 0 < W.heap.size := by
  rw [MakeChecks.laidMetH_plain _ _ _ (by kernel_rfl)] at h
  have hg : Tryd.prog.globalNamed "math/bits.deBruijn64tab" = some 0 := by kernel_rfl
  have e : (Rows.laid_math_bits_deBruijn64tab : DataW Unit) = Lib.tabData .u8 (List.map (fun n : Nat => (n : Int)) Lib.deBruijn64tab) := rfl
  unfold laidL at h
  rw [e] at h
  have t := Lib.tabIs_of_head (t := 151) hg (by kernel_rfl) Tryd.underlying151 Tryd.underlying5 (by kernel_rfl) (by kernel_rfl) h
  have hc : ∀ j, j < 64 → W.cell? ⟨0, j, none⟩ = some (.int .u8 (Lib.deBruijn64tab.getD j 0)) := fun j hj => by
    have hl : Lib.deBruijn64tab.length = 64 := rfl
    rw [t.cell hg j (by simp [hl, hj])]
    have h1 : Lib.deBruijn64tab[j]? = some (Lib.deBruijn64tab[j]'(by omega)) := List.getElem?_eq_getElem (by omega)
    simp [List.getD, h1]
  exact ⟨hc, World.block_lt_of_cell? _ _ (hc 0 (by decide))⟩
theorem met (os : Os) (args : Array Value) : laidMetH Tryd.prog laidL ((World.laidAll Tryd.prog os laidL).forCall (fun _ _ => 0) ⟨#[], args, []⟩).memory := by
  rw [MakeChecks.laidMetH_plain _ _ _ (by kernel_rfl)]
  exact laidMet_laidAll _ (by kernel_rfl) (by kernel_rfl)
theorem shaped (os : Os) (args : Array Value) : ((World.laidAll Tryd.prog os laidL).forCall (fun _ _ => 0) ⟨#[], args, []⟩).Shaped Tryd.prog := World.shaped_of_ZipB (by kernel_rfl) (by kernel_rfl)

section
open Go.ChangeShapes Go.WideShapes Go.Deep
variable {H : Type} {enc : TypeId × Value → H} {W : World} {fuel : Nat} {cs : List Value} {x : DataW H × List MemPlace}
theorem cellsMo : Tryd.prog.cellsOf 27 = 2 := by kernel_rfl
theorem cellsAr : Tryd.prog.cellsOf 29 = 4 := by kernel_rfl
theorem bytesInt : Tryd.prog.bytesOf 3 = 8 := by kernel_rfl
theorem open_Iw (h : DataW.trod enc Tryd.prog W 0 (fun _ => true) true fuel 22 cs = some x) :
    ∃ (A : Option Addr) (xs : List Int) (c : Nat), cs = [.slice A xs.length c] ∧ Ints W W.heap.size A xs ∧ xs.length ≤ c ∧ c ≤ maxLen ∧ ((∀ n ∈ x.1.weights Tryd.prog 22, n ≤ reachBytes) → xs.length ≤ 1152921504606846976) := by
  obtain ⟨A, xs, c, e, hR, h1, h2⟩ := open_I h
  refine ⟨A, xs, c, e, hR, h1, h2, fun hw => ?_⟩
  rcases open_slice Tryd.underlying22 h with ⟨e2, _⟩ | ⟨a, len, cap, m, n, Ed, Pl, e2, _, hlc, hcm, hm, e3, hi⟩
  · rw [e2] at e
    injection e with e
    injection e with _ e _
    omega
  · rw [e2] at e
    injection e with e
    injection e with _ e _
    subst e3
    have hb : (0x7ffffffff000 : Nat) = reachBytes := rfl
    have hw2 := hw _ (by simp only [DataW.weights, Tryd.underlying22]; exact List.mem_cons_self)
    rw [bytesInt, ← hb] at hw2
    simp at hw2
    omega
theorem weights_struct2 {T a b : TypeId} {f0 f1 : Field} {y0 y1 : DataW H} {p : List MemPlace} (hT : Tryd.prog.underlying T = some (.struct #[f0, f1])) (h0 : f0.type = a) (h1 : f1.type = b) (hx : x = (.agg [y0, y1], p)) (hw : ∀ n ∈ x.1.weights Tryd.prog T, n ≤ reachBytes) :
    (∀ n ∈ y0.weights Tryd.prog a, n ≤ reachBytes) ∧ (∀ n ∈ y1.weights Tryd.prog b, n ≤ reachBytes) := by
  subst hx h0 h1
  refine ⟨fun n hn => hw n ?_, fun n hn => hw n ?_⟩ <;> simp [DataW.weights, hT, DataW.weightsEach, hn]
theorem open_M (h : DataW.trod enc Tryd.prog W 0 (fun _ => true) true fuel 27 cs = some x) :
    ∃ (m : Mo) (An : Option Addr) (cn : Nat) (Ae : Option Addr) (ce : Nat), cs = [.slice An m.ns.length cn, .slice Ae m.es.length ce] ∧ Ints W W.heap.size An m.ns ∧ Ints W W.heap.size Ae m.es ∧ ((∀ n ∈ x.1.weights Tryd.prog 27, n ≤ reachBytes) → m.ns.length ≤ 1152921504606846976 ∧ m.es.length ≤ 1152921504606846976) := by
  obtain ⟨y0, y1, n, hx, hl, h0, h1⟩ := trod_struct2 Tryd.underlying27 h
  dsimp only at h0 h1
  rw [cellsInts] at h0 h1
  rw [cellsMo] at hl
  obtain ⟨An, ns, cn, e0, hN, _, _, w0⟩ := open_Iw h0
  obtain ⟨Ae, es, ce, e1, hE, _, _, w1⟩ := open_Iw h1
  refine ⟨⟨ns, es⟩, An, cn, Ae, ce, two_of hl e0 e1, hN, hE, fun hw => ?_⟩
  obtain ⟨q0, q1⟩ := weights_struct2 Tryd.underlying27 rfl rfl hx hw
  exact ⟨w0 q0, w1 q1⟩
theorem four_of2 {cs : List Value} (hl : cs.length = 4) {a b c d : Value} (h0 : (cs.drop 0).take 2 = [a, b]) (h1 : (cs.drop 2).take 2 = [c, d]) : cs = [a, b, c, d] := by
  match cs, hl with
  | [x, y, z, u], _ => simp at h0 h1; rw [h0.1, h0.2, h1.1, h1.2]
theorem open_R (h : DataW.trod enc Tryd.prog W 0 (fun _ => true) true fuel 29 cs = some x) (hw : ∀ n ∈ x.1.weights Tryd.prog 29, n ≤ reachBytes) :
    ∃ y : Ar, cs = [.slice y.An y.g.ns.length y.cn, .slice y.Ae y.g.es.length y.ce, .slice y.Mn y.m.ns.length y.mn, .slice y.Me y.m.es.length y.me] ∧ ArAt W y := by
  obtain ⟨y0, y1, n, hx, hl, h0, h1⟩ := trod_struct2 Tryd.underlying29 h
  dsimp only at h0 h1
  rw [cellsGr] at h0
  rw [cellsMo] at h1
  rw [cellsAr] at hl
  obtain ⟨g, An, cn, Ae, ce, e0, hG⟩ := open_G h0
  obtain ⟨m, Mn, mn, Me, me, e1, hN, hE, w1⟩ := open_M h1
  obtain ⟨_, q1⟩ := weights_struct2 Tryd.underlying29 rfl rfl hx hw
  obtain ⟨l1, l2⟩ := w1 q1
  exact ⟨⟨g, m, An, cn, Ae, ce, Mn, mn, Me, me⟩, four_of2 hl e0 e1, hG, hN, hE, l1, l2⟩
end

end Go.Proofs.YtaeelanbkdkppaaDoor
