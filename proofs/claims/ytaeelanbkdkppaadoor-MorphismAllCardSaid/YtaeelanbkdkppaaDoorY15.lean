import Derived.Test.YtaeelanbkdkppaaDoorZ13
import Derived.Test.YtaeelanbkdkppaaDoorZ14
import Derived.Test.YtaeelanbkdkppaaDoorZ02
import Derived.Test.YtaeelanbkdkppaaDoorZ10
import Derived.Test.YtaeelanbkdkppaaDoorZ05
import Derived.Deep.DeepCutAuto
/-
  few and copied of the laws. Printed by mklaw6.py.
-/
namespace Go.Proofs.YtaeelanbkdkppaaDoor
open Go.RowKit Go.Shelf

set_option maxRecDepth 100000 in
set_option maxHeartbeats 4000000 in
theorem copiedM_any (m : Mo) (Mn : Option Addr) (mn : Nat) (Me : Option Addr) (me : Nat) (w : World) (hm1 : Ints w w.heap.size Mn m.ns) (hm2 : Ints w w.heap.size Me m.es) (lm1 : m.ns.length ≤ 1000) (lm2 : m.es.length ≤ 1000) :
    Calls Tryd.prog 13 #[gval Mn m.ns.length mn Me m.es.length me] w fun e w' => (∃ v u, e = .returned (.agg #[v, u]) ∧ OwnI w' w.heap.size v (m.ns) ∧ OwnI w' w.heap.size u (m.es)) ∧ Below w.heap.size w w' := by
  have hS0 : SR w _ ((w.alloc (.cells #[.slice Mn m.ns.length mn, .slice Me m.es.length me] 27)).alloc (.cells #[.slice none 0 0, .slice none 0 0] 27)) := SR.push (SR.push (SR.nil w) rfl _ _ _) (by simp) _ _ _
  have HN1 := Lib.hid (fun u (hu : Below w.heap.size w u) => cloneI_any m.ns Mn u.heap.size mn u (by omega) (Reads.up hm1 hu))
  have HN2 := Lib.hid (fun u (hu : Below w.heap.size w u) => cloneI_any m.es Me u.heap.size me u (by omega) (Reads.up hm2 hu))
  clear hm1 hm2
  generalize m.ns = L1 at *
  generalize m.es = L2 at *
  go_enter Tryd.func13, Tryd.ntmps13
  go_wp2_with fail
  generalize hw1 : ((w.alloc (.cells #[.slice Mn L1.length mn, .slice Me L2.length me] 27)).alloc (.cells #[.slice none 0 0, .slice none 0 0] 27)) = w1 at *
  clear hw1
  have HS := Lib.hid hS0
  have HWS : Hid (w.heap.size ≤ w1.drew.heap.size) := Lib.hid hS0.1.size
  clear hS0
  obtain ⟨c0x, c0y⟩ := HS.out.cell (i := 0) rfl
  obtain ⟨c1x, c1y⟩ := HS.out.cell (i := 1) rfl
  simp only [Nat.add_zero] at c0x c0y
  have fr0 := HS.out.free (i := 1) rfl 0
  have fr1 := HS.out.free (i := 1) rfl 1
  have HSd : Hid (SR w _ w1.drew) := Lib.hid (HS.out.up (below_d _))
  have HS1 : Hid ((fun u : World => u.cell? ⟨w.heap.size, 0, none⟩ = some (.slice Mn L1.length mn) ∧ u.cell? ⟨w.heap.size, 1, none⟩ = some (.slice Me L2.length me)) w1.drew) := Lib.hid ⟨c0x, c0y⟩
  have HUP : Hid (∀ u u', (fun u : World => u.cell? ⟨w.heap.size, 0, none⟩ = some (.slice Mn L1.length mn) ∧ u.cell? ⟨w.heap.size, 1, none⟩ = some (.slice Me L2.length me)) u → Below u.heap.size u u' → (fun u : World => u.cell? ⟨w.heap.size, 0, none⟩ = some (.slice Mn L1.length mn) ∧ u.cell? ⟨w.heap.size, 1, none⟩ = some (.slice Me L2.length me)) u') := Lib.hid fun u u' h hb => ⟨cell_up hb (h.1), cell_up hb (h.2)⟩
  clear c0x c0y c1x c1y fr0 fr1
  refine wp_region_noPanic ?_
  refine wp_region_held_drew (S := (fun u : World => u.cell? ⟨w.heap.size, 0, none⟩ = some (.slice Mn L1.length mn) ∧ u.cell? ⟨w.heap.size, 1, none⟩ = some (.slice Me L2.length me))) (by kernel_rfl) (HS1.out) (fun hHeld => ?_)
  refine wpAnyH_take (i := 0) (v := ?_) (oper_at (r := _) rfl) (by kernel_rfl) (by kernel_rfl) (by kernel_rfl) (fun _ _ _ h => h) (Or.inl ⟨by rfl, ?_⟩) (by assumption) ?_
  rotate_left
  · intro w hSw; try dsimp only at hSw
    go_simp
    try with_reducible rfl
  try simp only [Act.put, List.setIfInBounds_toArray, List.set_cons_zero, List.set_cons_succ]
  refine wpAnyH_take (i := 1) (v := ?_) (oper_at (r := _) rfl) (by kernel_rfl) (by kernel_rfl) (by kernel_rfl) (fun _ _ _ h => h) (Or.inl ⟨by rfl, ?_⟩) (by assumption) ?_
  rotate_left
  · intro w hSw; try dsimp only at hSw
    go_simp
    try with_reducible rfl
  try simp only [Act.put, List.setIfInBounds_toArray, List.set_cons_zero, List.set_cons_succ]
  refine wpAnyH_take (i := 3) (v := ?_) (oper_at (r := _) rfl) (by kernel_rfl) (by kernel_rfl) (by kernel_rfl) (fun _ _ _ h => h) (Or.inl ⟨by rfl, ?_⟩) (by assumption) ?_
  rotate_left
  · intro w hSw; try dsimp only at hSw
    go_simp
    try with_reducible rfl
  try simp only [Act.put, List.setIfInBounds_toArray, List.set_cons_zero, List.set_cons_succ]
  refine wpAnyH_take (i := 4) (v := ?_) (oper_at (r := _) rfl) (by kernel_rfl) (by kernel_rfl) (by kernel_rfl) (fun _ _ _ h => h) (Or.inl ⟨by rfl, ?_⟩) (by assumption) ?_
  rotate_left
  · intro w hSw; try dsimp only at hSw
    go_simp
    try with_reducible rfl
  try simp only [Act.put, List.setIfInBounds_toArray, List.set_cons_zero, List.set_cons_succ]
  refine wpAnyH_ready (rs := [2]) (by kernel_rfl) (by simp) ?_
  refine AllReadyH.cons (oper_at (r := _) rfl) (fun K hK => ?_) AllReadyH.nil
  go_simp
  refine (HN1.out _ HSd.out.1).mono ?_
  rintro e w2 ⟨v2, rfl, ho2, hb2⟩
  have HS2 := Lib.hid (HUP.out _ _ HS1.out hb2)
  have HLE := Lib.hid hb2.size
  have HSR2 := Lib.hid (HSd.out.up hb2)
  have HO2 := Lib.hid ho2
  obtain ⟨A2, d2, rfl⟩ := OwnE.slice ho2
  clear ho2 hb2
  go_wp2_with fail
  refine hK.out _ _ (HS2.out) (fun _ => ?_)
  clear hK K
  try simp only [Act.put, List.setIfInBounds_toArray, List.set_cons_zero, List.set_cons_succ]
  refine wpAnyH_ready (rs := [5]) (by kernel_rfl) (by simp) ?_
  refine AllReadyH.cons (oper_at (r := _) rfl) (fun K hK => ?_) AllReadyH.nil
  go_simp
  refine (HN2.out _ HSR2.out.1).mono ?_
  rintro e w3 ⟨v3, rfl, ho3, hb3⟩
  have HS3 := Lib.hid (HUP.out _ _ HS2.out hb3)
  have HSR3 := Lib.hid (HSR2.out.up hb3)
  have HOO := Lib.hid (OwnE.below HO2.out hb3 (Nat.le_refl _))
  have HO3 := Lib.hid ho3
  obtain ⟨A3, d3, rfl⟩ := OwnE.slice ho3
  clear ho3 hb3 HO2
  go_wp2_with fail
  refine hK.out _ _ (HS3.out) (fun _ => ?_)
  clear hK K
  try simp only [Act.put, List.setIfInBounds_toArray, List.set_cons_zero, List.set_cons_succ]
  refine wpAnyH_take (i := 6) (v := ?_) (oper_at (r := _) rfl) (by kernel_rfl) (by kernel_rfl) (by kernel_rfl) (fun _ _ _ h => h) (Or.inl ⟨by rfl, ?_⟩) (by assumption) ?_
  rotate_left
  · intro w hSw; try dsimp only at hSw
    go_simp
    try with_reducible rfl
  try simp only [Act.put, List.setIfInBounds_toArray, List.set_cons_zero, List.set_cons_succ]
  obtain ⟨c1x, c1y⟩ := HSR3.out.cell (i := 1) rfl
  have fr0 := HSR3.out.free (i := 1) rfl 0
  have fr1 := HSR3.out.free (i := 1) rfl 1
  have HSZ := Lib.hid (HSR3.out.set (i := 1) rfl (.slice A2 L1.length d2) (.slice A3 L2.length d3))
  obtain ⟨z0x, z0y⟩ := HSZ.out.cell (i := 0) rfl
  simp only [Nat.add_zero] at z0x z0y
  have HS4 : Hid ((fun u : World => u.cell? ⟨w.heap.size, 0, none⟩ = some (.slice Mn L1.length mn) ∧ u.cell? ⟨w.heap.size, 1, none⟩ = some (.slice Me L2.length me)) _) := Lib.hid ⟨z0x, z0y⟩
  clear z0x z0y
  refine wpAnyH_ready (rs := [7]) (by kernel_rfl) (by simp) ?_
  refine AllReadyH.cons (oper_at (r := _) rfl) (fun K hK => ?_) AllReadyH.nil
  go_simp
  refine hK.out _ _ (HS4.out) (fun _ => ?_)
  clear hK K
  try simp only [Act.put, List.setIfInBounds_toArray, List.set_cons_zero, List.set_cons_succ]
  refine wpAnyH_done (by kernel_rfl) ?_ _
  refine NoPanic.normal ?_
  go_wp2_with fail
  obtain ⟨r0, r1⟩ := HSZ.out.cell (i := 1) rfl
  have hlt : w.heap.size + 1 < w1.heap.size := heap_lt (HS.out.2 1 _ rfl)
  have hsd := HSR2.out.1.size
  have hle : w1.drew.heap.size ≤ w2.heap.size := HLE.out
  refine bodyPost_ret (v := .agg #[.slice A2 L1.length d2, .slice A3 L2.length d3]) (by simp [results, Tryd.results13, go_sem, r0, r1]) rfl ?_
  have s1 : OwnI ((w3.setCell ⟨w.heap.size + 1, 0, none⟩ (.slice A2 L1.length d2)).setCell ⟨w.heap.size + 1, 1, none⟩ (.slice A3 L2.length d3)) _ _ _ := ownsRow_setCell_below (ownsRow_setCell_below HOO.out (by show w.heap.size + 1 < w1.heap.size; exact hlt) _) (by show w.heap.size + 1 < w1.heap.size; exact hlt) _
  have s2 : OwnI ((w3.setCell ⟨w.heap.size + 1, 0, none⟩ (.slice A2 L1.length d2)).setCell ⟨w.heap.size + 1, 1, none⟩ (.slice A3 L2.length d3)) _ _ _ := ownsRow_setCell_below (ownsRow_setCell_below HO3.out (by show w.heap.size + 1 < w2.heap.size; exact Nat.lt_of_lt_of_le hlt hle) _) (by show w.heap.size + 1 < w2.heap.size; exact Nat.lt_of_lt_of_le hlt hle) _
  exact ⟨⟨_, _, rfl, s1.mono HWS.out, s2.mono (Nat.le_trans HWS.out hle)⟩, HSZ.out.1⟩

/-- an arrow as the laws are given it -/
structure Ar where
  g : Gr
  m : Mo
  An : Option Addr
  cn : Nat
  Ae : Option Addr
  ce : Nat
  Mn : Option Addr
  mn : Nat
  Me : Option Addr
  me : Nat
def Ar.val (x : Ar) : Value := .agg #[.slice x.An x.g.ns.length x.cn, .slice x.Ae x.g.es.length x.ce, .slice x.Mn x.m.ns.length x.mn, .slice x.Me x.m.es.length x.me]
structure ArAt (w : World) (x : Ar) : Prop where
  gr : GrAt w x.An x.cn x.Ae x.ce x.g
  m1 : Ints w w.heap.size x.Mn x.m.ns
  m2 : Ints w w.heap.size x.Me x.m.es
  l1 : x.m.ns.length ≤ 1152921504606846976
  l2 : x.m.es.length ≤ 1152921504606846976
theorem ArAt.up {w w' : World} {x : Ar} (h : ArAt w x) (hb : Below w.heap.size w w') : ArAt w' x := ⟨h.gr.up hb, Reads.up h.m1 hb, Reads.up h.m2 hb, h.l1, h.l2⟩
def fewA (x : Ar) : Bool := fewB x.g && fewM x.m 140
/-- a block of arrows -/
def ArsAt (u : World) (b : Nat) (L : List Ar) : Prop := b < u.heap.size ∧ ∀ i (h : i < L.length), u.cell? ⟨b, i * 4, none⟩ = some (.slice L[i].An L[i].g.ns.length L[i].cn) ∧ u.cell? ⟨b, i * 4 + 1, none⟩ = some (.slice L[i].Ae L[i].g.es.length L[i].ce) ∧ u.cell? ⟨b, i * 4 + 2, none⟩ = some (.slice L[i].Mn L[i].m.ns.length L[i].mn) ∧ u.cell? ⟨b, i * 4 + 3, none⟩ = some (.slice L[i].Me L[i].m.es.length L[i].me)
theorem ArsAt.up {u u' : World} {b : Nat} {L : List Ar} (h : ArsAt u b L) (hb : Below u.heap.size u u') : ArsAt u' b L :=
  ⟨Nat.lt_of_lt_of_le h.1 hb.size, fun i hi => ⟨cell_up hb (h.2 i hi).1, cell_up hb (h.2 i hi).2.1, cell_up hb (h.2 i hi).2.2.1, cell_up hb (h.2 i hi).2.2.2⟩⟩

set_option maxRecDepth 100000 in
set_option maxHeartbeats 2000000 in
theorem fewL_any (a : Gr) (L : List Ar) (An : Option Addr) (cn : Nat) (Ae : Option Addr) (ce : Nat) (b c : Nat) (w : World) (hl : L.length ≤ 10) (hT : GrAt w An cn Ae ce a) (hL : ∀ x ∈ L, ArAt w x) (hB : ArsAt w b L) :
    Calls Tryd.prog 11 #[gval An a.ns.length cn Ae a.es.length ce, .slice (some ⟨b, 0, none⟩) L.length c] w fun e w' => e = .returned (.bool (L.all fewA && fewB a)) ∧ Below w.heap.size w w' := by
  have HB := Lib.hid (fun (u : World) (hu : Below w.heap.size w u) => hB.up hu)
  have HL := Lib.hid (fun (u : World) (hu : Below w.heap.size w u) x hx => (hL x hx).up hu)
  have HT := Lib.hid (fun (u : World) (hu : Below w.heap.size w u) => few_any a An cn Ae ce u (hT.up hu))
  have HALL : Hid ((∀ i (h : i < L.length), fewA L[i] = true) → L.all fewA = true) := Lib.hid fun h => List.all_eq_true.2 fun x hx => by
    obtain ⟨i, hi, rfl⟩ := List.mem_iff_getElem.1 hx
    exact h i hi
  have HNOT : Hid (∀ i (h : i < L.length), fewA L[i] = false → L.all fewA = false) := Lib.hid fun i hi hf => Bool.eq_false_iff.2 fun h => by
    have := List.all_eq_true.1 h _ (List.getElem_mem hi)
    rw [hf] at this; cases this
  have HFA : Hid (∀ x, fewA x = (fewB x.g && fewM x.m 140)) := Lib.hid fun _ => rfl
  clear hB hL hT
  generalize L.all fewA = Q at *
  generalize fewB a = R at *
  generalize fewA = FA at *
  have hB0 : Below w.heap.size w (w.alloc (.cells #[.slice An a.ns.length cn, .slice Ae a.es.length ce] 25)) := (Below.refl _ _).alloc (Nat.le_refl _) _
  have hx0 := heap_alloc_new w (.cells #[.slice An a.ns.length cn, .slice Ae a.es.length ce] 25)
  have HB0 := Lib.hid hB0
  have HX0 := Lib.hid hx0
  clear hB0 hx0
  go_enter Tryd.func11, Tryd.ntmps11
  go_wp2_with fail
  go_loopw [9] (fun v wr => ∃ i : Nat, i ≤ L.length ∧ v = .int .i64 (i : Int) ∧ Below w.heap.size w wr ∧ wr.heap[w.heap.size]? = some (.cells #[.slice An a.ns.length cn, .slice Ae a.es.length ce] 25 (0, 0)) ∧ ∀ j (h : j < L.length), j < i → FA L[j] = true) (fun v _ => L.length - (intOf v).toNat)
  case atStart => exact ⟨0, Nat.zero_le _, rfl, HB0.out, HX0.out, fun j h h2 => by omega⟩
  case round =>
    obtain ⟨i, hi, rfl, hbel, hbx, hs⟩ := hrel
    have HS := Lib.hid hs
    have HBL := Lib.hid hbel
    have HBX := Lib.hid hbx
    clear hs
    by_cases hlt : i < L.length
    · obtain ⟨hbl, hcs⟩ := HB.out wr hbel
      obtain ⟨c1, c2, c3, c4⟩ := hcs i hlt
      have hAr := HL.out wr hbel _ (List.getElem_mem hlt)
      have HF := Lib.hid (HFA.out L[i])
      have HNI := Lib.hid (HNOT.out i hlt)
      have HNX : Hid (FA L[i] = true → ∀ j (h : j < L.length), j < i + 1 → FA L[j] = true) := Lib.hid fun he j h h2 => by
        by_cases e : j = i
        · subst e; exact he
        · exact HS.out j h (by omega)
      have HLT := Lib.hid hlt
      have hi0 : (0 : Int) ≤ (i : Int) := by omega
      have hi1 : (i : Int) < (L.length : Int) := by omega
      have hi2 : ((i : Int)).toNat = i := by omega
      have HM : Hid (L.length - ((i : Int) + 1).toNat < L.length - ((i : Int)).toNat) := Lib.hid (by omega)
      clear hcs HB HL
      generalize L[i] = x at *
      obtain ⟨g, m, Xn, xn, Xe, xe, Mn, mn, Me, me⟩ := x
      dsimp only at c1 c2 c3 c4 HF
      obtain ⟨r1, r2, r3, l1, l2⟩ := hAr
      dsimp only at r1 r2 r3 l1 l2
      have HG1 := Lib.hid (fun (u : World) (hu : Below wr.heap.size wr u) => few_any g Xn xn Xe xe u (r1.up hu))
      have HG2 := Lib.hid (fun u => fewM_any m 140 Mn mn Me me u l1 l2)
      clear r1 r2 r3 l1 l2
      generalize fewB g = f1 at *
      generalize fewM m 140 = f2 at *
      go_upto_region 4 with fail
      generalize hW : wr.alloc _ = W1
      have hb1 : Below wr.heap.size wr W1 := by rw [← hW]; exact (Below.refl _ _).alloc (Nat.le_refl _) _
      have hx1 : W1.heap[wr.heap.size]? = some (.cells #[.slice Xn g.ns.length xn, .slice Xe g.es.length xe, .slice Mn m.ns.length mn, .slice Me m.es.length me] 29 (0, 0)) := by rw [← hW]; exact heap_alloc_new _ _
      clear hW c1 c2 c3 c4 hbel hbx
      have d0 := cell_of_row _ _ 0 _ _ _ hx1
      have d1 := cell_of_row _ _ 1 _ _ _ hx1
      simp only [List.getElem?_toArray, List.getElem?_cons_zero, List.getElem?_cons_succ] at d0 d1
      have HX1 := Lib.hid hx1
      have HB1 := Lib.hid hb1
      clear hx1 hb1
      go_wp2_with fail
      refine (HG1.out _ HB1.out).mono ?_
      rintro e w2 ⟨rfl, hb2⟩
      have hx2 := heap_up hb2 HX1.out
      have HB2 := Lib.hid (HB1.out.trans (hb2.mono HB1.out.size))
      have HX2 := Lib.hid hx2
      have d2 := cell_of_row _ _ 2 _ _ _ hx2
      have d3 := cell_of_row _ _ 3 _ _ _ hx2
      simp only [List.getElem?_toArray, List.getElem?_cons_zero, List.getElem?_cons_succ] at d2 d3
      clear hb2 hx2 d0 d1
      cases f1
      · have HQ := Lib.hid (HNI.out (by rw [HF.out]; rfl))
        go_wp2_with fail
        go_ret
        exact ⟨ret_bool (by rw [HQ.out]; rfl), HBL.out.trans (HB2.out.mono HBL.out.size)⟩
      · go_wp2_with fail
        refine (HG2.out _).mono ?_
        rintro e w3 ⟨rfl, hb3⟩
        have HB3 := Lib.hid (HB2.out.trans (hb3.mono HB2.out.size))
        clear hb3 d2 d3
        cases f2
        · have HQ := Lib.hid (HNI.out (by rw [HF.out]; rfl))
          go_wp2_with fail
          go_ret
          exact ⟨ret_bool (by rw [HQ.out]; rfl), HBL.out.trans (HB3.out.mono HBL.out.size)⟩
        · have HN2 := Lib.hid (HNX.out (by rw [HF.out]; rfl))
          have HBN := Lib.hid (HBL.out.trans (HB3.out.mono HBL.out.size))
          have HXN := Lib.hid (heap_up HB3.out HBX.out)
          go_wp2_with fail
          go_roundw
          case rel => exact ⟨i + 1, HLT.out, by go_num, HBN.out, HXN.out, HN2.out⟩
          case measure => exact HM.out
    · obtain rfl : i = L.length := by omega
      have HQ := Lib.hid (HALL.out fun j h => HS.out j h h)
      obtain ⟨c0, c1⟩ := cell2 hbx
      clear hbel hbx
      go_wp2_with fail
      refine (HT.out _ HBL.out).mono ?_
      rintro e w2 ⟨rfl, hb2⟩
      go_wp2_with fail
      go_ret
      exact ⟨ret_bool (by rw [HQ.out]; simp), HBL.out.trans (hb2.mono HBL.out.size)⟩

end Go.Proofs.YtaeelanbkdkppaaDoor

/-
  What the laws of morphisms need: boxes of any number of cells; stores into boxes of slices; the law's guard.
-/
namespace Go.Proofs.YtaeelanbkdkppaaDoor
open Go.RowKit Go.Shelf

/-- since w: boxes in new blocks, one after another -/
def SV (w : World) (L : List (List Value × TypeId)) (u : World) : Prop := Below w.heap.size w u ∧ w.heap.size + L.length ≤ u.heap.size ∧ ∀ (i : Nat) (x : List Value × TypeId), L[i]? = some x → u.heap[w.heap.size + i]? = some (.cells x.1.toArray x.2 (0, 0))
theorem SV.nil (w : World) : SV w [] w := ⟨Below.refl _ _, Nat.le_refl _, fun i x h => by simp at h⟩
theorem SV.push {w u : World} {L : List (List Value × TypeId)} (h : SV w L u) (hs : u.heap.size = w.heap.size + L.length) (cs : List Value) (t : TypeId) : SV w (L ++ [(cs, t)]) (u.alloc (.cells cs.toArray t)) := by
  refine ⟨h.1.alloc (by omega) _, by simp; omega, fun i x hx => ?_⟩
  by_cases hi : i < L.length
  · rw [List.getElem?_append_left hi] at hx
    rw [at_alloc, if_neg (by omega)]
    exact h.2.2 i x hx
  · rw [List.getElem?_append_right (by omega)] at hx
    have h0 : i - L.length = 0 := by
      rcases Nat.eq_zero_or_pos (i - L.length) with h | h
      · exact h
      · rw [List.getElem?_eq_none (by simp; omega)] at hx; cases hx
    rw [h0] at hx
    simp at hx
    subst hx
    rw [at_alloc, if_pos (by omega)]
theorem SV.up {w u u' : World} {L : List (List Value × TypeId)} (h : SV w L u) (hb : Below u.heap.size u u') : SV w L u' := ⟨h.1.trans (hb.mono h.1.size), Nat.le_trans h.2.1 hb.size, fun i x hx => heap_up hb (h.2.2 i x hx)⟩
theorem SV.cell {w u : World} {L : List (List Value × TypeId)} (h : SV w L u) {i j : Nat} {x : List Value × TypeId} {v : Value} (hx : L[i]? = some x) (hv : x.1[j]? = some v) : u.cell? ⟨w.heap.size + i, j, none⟩ = some v := by
  rw [cell_of_row _ _ j _ _ _ (h.2.2 i x hx)]
  simpa using hv
theorem SV.set {w u : World} {L : List (List Value × TypeId)} (h : SV w L u) {g : Nat} (hg : w.heap.size + L.length ≤ g) (y z : Value) : SV w L ((u.setCell ⟨g, 0, none⟩ y).setCell ⟨g, 1, none⟩ z) := by
  refine ⟨(h.1.setCell (p := ⟨g, 0, none⟩) (by show w.heap.size ≤ g; omega) y).setCell (p := ⟨g, 1, none⟩) (by show w.heap.size ≤ g; omega) z, by simpa using h.2.1, fun k x hx => ?_⟩
  have hl : k < L.length := (List.getElem?_eq_some_iff.1 hx).1
  exact (heap_setCell_other _ _ _ _ (by show w.heap.size + k ≠ g; omega)).trans ((heap_setCell_other _ _ _ _ (by show w.heap.size + k ≠ g; omega)).trans (h.2.2 k x hx))
/-- a box of two slices -/
def BX (g : Nat) (u v : Value) (t : TypeId) (W : World) : Prop := W.heap[g]? = some (.cells #[u, v] t (0, 0))
theorem BX.up {g : Nat} {u v : Value} {t : TypeId} {W W' : World} (h : BX g u v t W) (hb : Below W.heap.size W W') : BX g u v t W' := heap_up hb h
theorem BX.cells {g : Nat} {u v : Value} {t : TypeId} {W : World} (h : BX g u v t W) : W.cell? ⟨g, 0, none⟩ = some u ∧ W.cell? ⟨g, 1, none⟩ = some v := cell2 h
theorem BX.free {g : Nat} {u v : Value} {t : TypeId} {W : World} (h : BX g u v t W) (j : Nat) : W.frozen? ⟨g, j, none⟩ = false := frozen_of_row _ _ _ _ _ h
theorem BX.lt {g : Nat} {u v : Value} {t : TypeId} {W : World} (h : BX g u v t W) : g < W.heap.size := heap_lt h
theorem BX.far {g k : Nat} {u v : Value} {t : TypeId} {W : World} (h : BX g u v t W) (hk : g ≠ k) (y z : Value) : BX g u v t ((W.setCell ⟨k, 0, none⟩ y).setCell ⟨k, 1, none⟩ z) :=
  (heap_setCell_other _ _ _ _ (by show g ≠ k; exact hk)).trans ((heap_setCell_other _ _ _ _ (by show g ≠ k; exact hk)).trans h)
theorem BX.put {g : Nat} {u v : Value} {t : TypeId} {W : World} (h : BX g u v t W) (y z : Value) : BX g y z t ((W.setCell ⟨g, 0, none⟩ y).setCell ⟨g, 1, none⟩ z) := store2 (h := g) ⟨_, _, h⟩ y z
/-- a store into a box of slices turns no slice of numbers -/
theorem ints_set {w : World} {B : Nat} {A : Option Addr} {xs : List Int} (h : Ints w B A xs) {g : Nat} {a a' : Option Addr} {n c n' c' : Nat} {t : TypeId} (hb : BX g (.slice a n c) (.slice a' n' c') t w) (y z : Value) : Ints ((w.setCell ⟨g, 0, none⟩ y).setCell ⟨g, 1, none⟩ z) B A xs := by
  rcases h with h | ⟨b, off, h1, h2, h3⟩
  · exact .inl h
  · refine .inr ⟨b, off, h1, h2, fun i x hx q u hu => ?_⟩
    have hc := h3 i x hx q u hu
    have hne : g ≠ b := fun e => by
      subst e
      rw [cell_of_row _ _ _ _ _ _ hb] at hc
      have hm : u ∈ (#[Value.slice a n c, Value.slice a' n' c'] : Array Value) := Array.mem_of_getElem? hc
      have hm2 : u = .int .i64 x := by simpa [EInt] using List.mem_of_getElem? hu
      subst hm2
      simp at hm
    rw [World.cell?_setCell_far _ _ _ _ hne, World.cell?_setCell_far _ _ _ _ hne]
    exact hc
theorem ints_set' {w : World} {A : Option Addr} {xs : List Int} (h : Ints w w.heap.size A xs) {g : Nat} {a a' : Option Addr} {n c n' c' : Nat} {t : TypeId} (hb : BX g (.slice a n c) (.slice a' n' c') t w) (y z : Value) : Ints ((w.setCell ⟨g, 0, none⟩ y).setCell ⟨g, 1, none⟩ z) ((w.setCell ⟨g, 0, none⟩ y).setCell ⟨g, 1, none⟩ z).heap.size A xs := by
  have := ints_set h hb y z
  simpa using this
theorem awk {w : World} (h00 : 0 < w.heap.size) (hT : TabW w) (u : World) (hu : Below w.heap.size w u) : Calls Tryd.prog 10 #[] u fun e w' => e = .returned (.bool true) ∧ Below u.heap.size u w' :=
  awake_any u (Nat.lt_of_lt_of_le h00 hu.size) (hT.up (hu.block 0 h00))
theorem fewA_len {x : Ar} (h : fewA x = true) : x.m.ns.length ≤ 1000 ∧ x.m.es.length ≤ 1000 := by
  unfold fewA fewM at h
  rw [Bool.and_eq_true, decide_eq_true_iff] at h
  omega
theorem fewM_len {m : Mo} (h : fewM m 140 = true) : m.ns.length ≤ 1000 ∧ m.es.length ≤ 1000 := by
  unfold fewM at h
  rw [decide_eq_true_iff] at h
  omega
theorem ars_one (W : World) (x : Ar) (t : TypeId) : ArsAt (W.alloc (.cells #[.slice x.An x.g.ns.length x.cn, .slice x.Ae x.g.es.length x.ce, .slice x.Mn x.m.ns.length x.mn, .slice x.Me x.m.es.length x.me] t)) W.heap.size [x] := by
  have hx := heap_alloc_new W (.cells #[.slice x.An x.g.ns.length x.cn, .slice x.Ae x.g.es.length x.ce, .slice x.Mn x.m.ns.length x.mn, .slice x.Me x.m.es.length x.me] t)
  refine ⟨by simp, fun i h => ?_⟩
  obtain rfl : i = 0 := by simp at h; exact h
  exact ⟨cell_of_row _ _ 0 _ _ _ hx, cell_of_row _ _ 1 _ _ _ hx, cell_of_row _ _ 2 _ _ _ hx, cell_of_row _ _ 3 _ _ _ hx⟩
theorem ars_two (W : World) (x y : Ar) (t : TypeId) : ArsAt (W.alloc (.cells #[.slice x.An x.g.ns.length x.cn, .slice x.Ae x.g.es.length x.ce, .slice x.Mn x.m.ns.length x.mn, .slice x.Me x.m.es.length x.me, .slice y.An y.g.ns.length y.cn, .slice y.Ae y.g.es.length y.ce, .slice y.Mn y.m.ns.length y.mn, .slice y.Me y.m.es.length y.me] t)) W.heap.size [x, y] := by
  have hx := heap_alloc_new W (.cells #[.slice x.An x.g.ns.length x.cn, .slice x.Ae x.g.es.length x.ce, .slice x.Mn x.m.ns.length x.mn, .slice x.Me x.m.es.length x.me, .slice y.An y.g.ns.length y.cn, .slice y.Ae y.g.es.length y.ce, .slice y.Mn y.m.ns.length y.mn, .slice y.Me y.m.es.length y.me] t)
  refine ⟨by simp, fun i h => ?_⟩
  have hi : i = 0 ∨ i = 1 := by simp at h; omega
  rcases hi with rfl | rfl
  · exact ⟨cell_of_row _ _ 0 _ _ _ hx, cell_of_row _ _ 1 _ _ _ hx, cell_of_row _ _ 2 _ _ _ hx, cell_of_row _ _ 3 _ _ _ hx⟩
  · exact ⟨cell_of_row _ _ 4 _ _ _ hx, cell_of_row _ _ 5 _ _ _ hx, cell_of_row _ _ 6 _ _ _ hx, cell_of_row _ _ 7 _ _ _ hx⟩
/-- copied, as a contract that hands over what can be read -/
theorem copied2 (m : Mo) (Mn : Option Addr) (mn : Nat) (Me : Option Addr) (me : Nat) (u : World) (h1 : Ints u u.heap.size Mn m.ns) (h2 : Ints u u.heap.size Me m.es) (l1 : m.ns.length ≤ 1000) (l2 : m.es.length ≤ 1000) :
    Calls Tryd.prog 13 #[gval Mn m.ns.length mn Me m.es.length me] u fun e w' => (∃ Xn xn Xe xe, e = .returned (gval Xn m.ns.length xn Xe m.es.length xe) ∧ Ints w' w'.heap.size Xn m.ns ∧ Ints w' w'.heap.size Xe m.es) ∧ Below u.heap.size u w' := by
  refine (copiedM_any m Mn mn Me me u h1 h2 l1 l2).mono ?_
  rintro e w' ⟨⟨v, x, rfl, o1, o2⟩, hb⟩
  have r1 := isI_own o1
  have r2 := isI_own o2
  obtain ⟨A1, d1, rfl⟩ := OwnE.slice o1
  obtain ⟨A2, d2, rfl⟩ := OwnE.slice o2
  obtain ⟨B1, k1, e1, q1, _⟩ := r1
  obtain ⟨B2, k2, e2, q2, _⟩ := r2
  injection e1 with e1 _ e3
  injection e2 with e2 _ e4
  subst e1 e2 e3 e4
  exact ⟨⟨_, _, _, _, rfl, q1, q2⟩, hb⟩
/-- the reference's Same, of two equal ones -/
theorem sameR_refl (a : Mo) (An : Option Addr) (cn : Nat) (Ae : Option Addr) (ce : Nat) (Bn : Option Addr) (dn : Nat) (Be : Option Addr) (de : Nat) (w : World) (l : a.ns.length ≤ maxLen ∧ a.es.length ≤ maxLen)
    (ha : Ints w w.heap.size An a.ns) (ha2 : Ints w w.heap.size Ae a.es) (hb : Ints w w.heap.size Bn a.ns) (hb2 : Ints w w.heap.size Be a.es) :
    Calls Tryd.prog 23 #[gval An a.ns.length cn Ae a.es.length ce, gval Bn a.ns.length dn Be a.es.length de] w fun e w' => e = .returned (.bool true) ∧ Below w.heap.size w w' := by
  have h := sameR6_any a a An cn Ae ce Bn dn Be de w l.1 l.2 ha ha2 hb hb2
  rw [decide_eq_true rfl] at h
  exact h
theorem sameM_refl (a : Mo) (An : Option Addr) (cn : Nat) (Ae : Option Addr) (ce : Nat) (Bn : Option Addr) (dn : Nat) (Be : Option Addr) (de : Nat) (w : World) (l : a.ns.length ≤ maxLen ∧ a.es.length ≤ maxLen)
    (ha : Ints w w.heap.size An a.ns) (ha2 : Ints w w.heap.size Ae a.es) (hb : Ints w w.heap.size Bn a.ns) (hb2 : Ints w w.heap.size Be a.es) :
    Calls Tryd.prog 24 #[gval An a.ns.length cn Ae a.es.length ce, gval Bn a.ns.length dn Be a.es.length de] w fun e w' => e = .returned (.bool true) ∧ Below w.heap.size w w' := by
  have h := sameMo_any a a An cn Ae ce Bn dn Be de w l.1 l.2 ha ha2 hb hb2
  rw [decide_eq_true rfl] at h
  exact h
/-- a call that hands over a morphism -/
abbrev GivesM (f : FuncId) (args : Array Value) (E : Nat) (R : Mo) (u : World) : Prop := Calls Tryd.prog f args u fun e w' => (∃ Xn xn Xe xe, e = .returned (.tuple #[gval Xn R.ns.length xn Xe R.es.length xe, .int .i64 (E : Int)]) ∧ Ints w' w'.heap.size Xn R.ns ∧ Ints w' w'.heap.size Xe R.es ∧ R.ns.length ≤ maxLen ∧ R.es.length ≤ maxLen) ∧ Below u.heap.size u w'
theorem givesM {f : FuncId} {args : Array Value} {E : Nat} {R : Mo} {u : World} (h : Calls Tryd.prog f args u fun e w' => (∃ v, e = .returned (.tuple #[v, .int .i64 (E : Int)]) ∧ IsM w' v R) ∧ Below u.heap.size u w') : GivesM f args E R u := by
  refine h.mono ?_
  rintro e w' ⟨⟨v, rfl, Xn, xn, Xe, xe, rfl, hx⟩, hb⟩
  exact ⟨⟨Xn, xn, Xe, xe, rfl, hx.ns, hx.es, Nat.le_trans hx.cn.1 hx.cn.2, Nat.le_trans hx.ce.1 hx.ce.2⟩, hb⟩
/-- the reference's Of -/
theorem of2 (a : Gr) (An : Option Addr) (cn : Nat) (Ae : Option Addr) (ce : Nat) (u : World) (l1 : a.ns.length ≤ 1000) (l2 : a.es.length ≤ 1000) :
    Calls Tryd.prog 29 #[gval An a.ns.length cn Ae a.es.length ce] u fun e w' => (∃ Xn xn Xe xe, e = .returned (gval Xn (idM a).ns.length xn Xe (idM a).es.length xe) ∧ Ints w' w'.heap.size Xn (idM a).ns ∧ Ints w' w'.heap.size Xe (idM a).es) ∧ Below u.heap.size u w' := by
  refine (ofR_any a An cn Ae ce u l1 l2).mono ?_
  rintro e w' ⟨⟨v, x, rfl, o1, o2⟩, hb⟩
  have r1 := isI_own o1
  have r2 := isI_own o2
  obtain ⟨A1, d1, rfl⟩ := OwnE.slice o1
  obtain ⟨A2, d2, rfl⟩ := OwnE.slice o2
  obtain ⟨B1, k1, e1, q1, _⟩ := r1
  obtain ⟨B2, k2, e2, q2, _⟩ := r2
  injection e1 with e1 _ e3
  injection e2 with e2 _ e4
  subst e1 e2 e3 e4
  exact ⟨⟨_, _, _, _, rfl, q1, q2⟩, hb⟩
abbrev R2 (m : Mo) : Prop := m.ns.length ≤ maxLen ∧ m.es.length ≤ maxLen
theorem iso_of {a b : Gr} {m : Mo} (h : invE a b m = 0) : IsoOk a b m := by
  unfold invE at h
  by_cases h1 : morE a b m = 0
  · rw [if_neg (fun k => k h1)] at h
    by_cases h2 : injB a b m = true ∧ surB a b m = true
    · obtain ⟨i1, i2⟩ := (injB_iff.1 h2.1).2
      obtain ⟨s1, s2⟩ := (surB_iff.1 h2.2).2
      exact ⟨mor_zero.1 h1, i1, i2, s1, s2⟩
    · rw [if_neg h2] at h
      cases h
  · rw [if_pos h1] at h
    exact absurd h h1

end Go.Proofs.YtaeelanbkdkppaaDoor

/-
  The reference's fits: each edge whose later end is the last node has an image.
-/
namespace Go.Proofs.YtaeelanbkdkppaaDoor
open Go.RowKit Go.Shelf

theorem cell3E {g : Nat} {u v z : Value} {t : TypeId} {W : World} (h : W.heap[g]? = some (.cells #[u, v, z] t (0, 0))) : W.cell? ⟨g, 0, none⟩ = some u ∧ W.cell? ⟨g, 1, none⟩ = some v ∧ W.cell? ⟨g, 2, none⟩ = some z := ⟨cell_of_row _ _ 0 _ _ _ h, cell_of_row _ _ 1 _ _ _ h, cell_of_row _ _ 2 _ _ _ h⟩
def condF (a : Gr) (l : List Int) (j : Nat) : Prop := max (a.es.getD j default).fr (a.es.getD j default).tq = (l.length : Int) - 1
def hitF (a b : Gr) (l : List Int) (j n : Nat) : Prop := ∃ k, k < n ∧ b.es.getD k default = want a l j

set_option maxRecDepth 100000 in
set_option maxHeartbeats 4000000 in
theorem fits_any (a b : Gr) (l : List Int) (An : Option Addr) (cn : Nat) (Ae : Option Addr) (ce : Nat) (Bn : Option Addr) (dn : Nat) (Be : Option Addr) (de : Nat) (La : Option Addr) (lc : Nat) (w : World) (hT : GrAt w An cn Ae ce a) (hU : GrAt w Bn dn Be de b) (hv : validE a = 0) (hl : l.length ≤ 1000) (hL : Ints w w.heap.size La l) :
    Calls Tryd.prog 72 #[gval An a.ns.length cn Ae a.es.length ce, gval Bn b.ns.length dn Be b.es.length de, .slice La l.length lc] w fun e w' => e = .returned (.bool (decide (fitsP a b l))) ∧ Below w.heap.size w w' := by
  have HALL : Hid ((∀ j, j < a.es.length → condF a l j → hitF a b l j b.es.length) → decide (fitsP a b l) = true) := Lib.hid fun h => decide_eq_true fun j hj hc => h j hj hc
  have HNOT : Hid (∀ j, j < a.es.length → condF a l j → ¬ hitF a b l j b.es.length → decide (fitsP a b l) = false) := Lib.hid fun j hj hc hn => decide_eq_false fun h => hn (h j hj hc)
  have HVE := Lib.hid (fun i (hi : i < a.es.length) => valid_at hv hi)
  have HC : Hid (∀ j, condF a l j ↔ max (a.es.getD j default).fr (a.es.getD j default).tq = (l.length : Int) - 1) := Lib.hid fun _ => Iff.rfl
  have HH : Hid (∀ j n, hitF a b l j n ↔ ∃ k, k < n ∧ b.es.getD k default = want a l j) := Lib.hid fun _ _ => Iff.rfl
  have HW : Hid (∀ j, want a l j = ⟨(a.es.getD j default).ty, l.getD (a.es.getD j default).fr.toNat 0, l.getD (a.es.getD j default).tq.toNat 0⟩) := Lib.hid fun _ => rfl
  have lae := Nat.le_trans hT.ce.1 hT.ce.2
  have lbe := Nat.le_trans hU.ce.1 hU.ce.2
  unfold maxLen at lae lbe
  have HT := Lib.hid hT
  have HU := Lib.hid hU
  have HL := Lib.hid hL
  have HS0 : Hid (SV w [([.slice An a.ns.length cn, .slice Ae a.es.length ce], 25), ([.slice Bn b.ns.length dn, .slice Be b.es.length de], 25)] _) := Lib.hid (SV.push (SV.push (SV.nil w) rfl [.slice An a.ns.length cn, .slice Ae a.es.length ce] 25) (by simp) [.slice Bn b.ns.length dn, .slice Be b.es.length de] 25)
  clear hT hU hL hv
  generalize decide (fitsP a b l) = Q at *
  generalize condF a l = C at *
  generalize hitF a b l = Hf at *
  generalize want a l = Wt at *
  go_enter Tryd.func72, Tryd.ntmps72
  go_wp2_with fail
  go_loopw [8] (fun v wr => ∃ i : Nat, i ≤ a.es.length ∧ v = .int .i64 (i : Int) ∧ SV w [([.slice An a.ns.length cn, .slice Ae a.es.length ce], 25), ([.slice Bn b.ns.length dn, .slice Be b.es.length de], 25)] wr ∧ ∀ j, j < i → C j → Hf j b.es.length) (fun v _ => a.es.length - (intOf v).toNat)
  case atStart => exact ⟨0, Nat.zero_le _, rfl, HS0.out, fun j h => by omega⟩
  case round =>
    obtain ⟨i, hi, rfl, hS, hA⟩ := hrel
    have HS := Lib.hid hS
    have HA := Lib.hid hA
    have c1 := hS.cell (i := 0) (j := 1) rfl rfl
    simp only [Nat.add_zero] at c1
    have hbel := hS.1
    clear HS0 hS hA
    by_cases hlt : i < a.es.length
    · obtain ⟨g2, o2, rfl, hg2, hc2⟩ := Eds.cells (HT.out.es.below hbel) hlt
      obtain ⟨d1, d2, d3⟩ := hc2 i hlt
      have hva := HVE.out i hlt
      have HCI := Lib.hid (HC.out i)
      have HWI := Lib.hid (HW.out i)
      have HHI := Lib.hid (HH.out i)
      have HNI := Lib.hid (HNOT.out i hlt)
      have HLT := Lib.hid hlt
      have k0 : (0 : Int) ≤ (i : Int) := by omega
      have k1 : (i : Int) < (a.es.length : Int) := by omega
      have k2 : ((i : Int)).toNat = i := by omega
      have HM2 : Hid (a.es.length - ((i : Int) + 1).toNat < a.es.length - ((i : Int)).toNat) := Lib.hid (by omega)
      clear hc2 hlt
      generalize a.es.getD i default = xa at *
      obtain ⟨ty, fr, tt⟩ := xa
      dsimp only at *
      go_upto_region 6 with fail
      have hb : Below wr.heap.size wr (wr.alloc (.cells #[.int .i64 ty, .int .i64 fr, .int .i64 tt] 65)) := (Below.refl _ _).alloc (Nat.le_refl _) _
      have hx := heap_alloc_new wr (.cells #[.int .i64 ty, .int .i64 fr, .int .i64 tt] 65)
      obtain ⟨gx, hgx⟩ : ∃ g, g = wr.heap.size := ⟨_, rfl⟩
      rw [← hgx] at hx
      have HS1 := Lib.hid (HS.out.up hb)
      generalize wr.alloc (.cells #[.int .i64 ty, .int .i64 fr, .int .i64 tt] 65) = W1 at *
      rw [← hgx]
      clear hgx hb d1 d2 d3 hbel c1 HS
      have HX1 := Lib.hid hx
      obtain ⟨x0, x1, x2⟩ := cell3E hx
      clear hx
      have HCI2 : Hid (C i ↔ max fr tt = (l.length : Int) - 1) := HCI
      by_cases hc : C i
      case neg =>
        have t1 : (max fr tt != (l.length : Int) - 1) = true := bne_iff_ne.2 fun h => hc (HCI2.out.2 h)
        have HNX : Hid (∀ j, j < i + 1 → C j → Hf j b.es.length) := Lib.hid fun j h hj => by
          by_cases e : j = i
          · subst e; exact absurd hj hc
          · exact HA.out j (by omega) hj
        clear hc
        go_wp2_with fail
        go_roundw
        case rel => exact ⟨i + 1, HLT.out, by go_num, HS1.out, HNX.out⟩
        case measure => exact HM2.out
      have hm := HCI2.out.1 hc
      have t1 : (max fr tt != (l.length : Int) - 1) = false := bne_eq_false_iff_eq.2 hm
      have HNX : Hid (Hf i b.es.length → ∀ j, j < i + 1 → C j → Hf j b.es.length) := Lib.hid fun hh j h hj => by
        by_cases e : j = i
        · subst e; exact hh
        · exact HA.out j (by omega) hj
      have HNN := Lib.hid (HNI.out hc)
      obtain ⟨F, hF⟩ : ∃ F : Nat, fr = (F : Int) := ⟨fr.toNat, by omega⟩
      obtain ⟨T, hTT⟩ : ∃ T : Nat, tt = (T : Int) := ⟨tt.toNat, by omega⟩
      subst hF hTT
      have hFl : F < l.length := by omega
      have hTl : T < l.length := by omega
      have hS1 := HS1.out
      obtain ⟨g4, o4, rfl, hg4, hc4⟩ := Ints.cells (HL.out.below hS1.1) hFl
      have HM1 := Lib.hid (hc4 F hFl)
      have HM3 := Lib.hid (hc4 T hTl)
      rw [Int.toNat_natCast, Int.toNat_natCast] at HWI
      have HFL := Lib.hid hFl
      have HTL := Lib.hid hTl
      clear hc hm hc4 hS1 hg4 hva HCI HCI2 HNI
      generalize l.getD F 0 = lf at *
      generalize l.getD T 0 = lt at *
      have HB1 := Lib.hid (HS1.out.1)
      go_wp2_with fail
      clear t1 x0 x1 x2
      go_loopw [10, 11] (fun f v wr2 => ∃ (k : Nat) (fb : Bool), k ≤ b.es.length ∧ v = .int .i64 (k : Int) ∧ f = .bool fb ∧ (fb = true ↔ ∃ k', k' < k ∧ b.es.getD k' default = ⟨ty, lf, lt⟩) ∧ Below W1.heap.size W1 wr2) (fun _ v _ => b.es.length - (intOf v).toNat)
      case atStart => exact ⟨0, false, Nat.zero_le _, rfl, rfl, ⟨fun h => (by cases h), fun ⟨k', h, _⟩ => by omega⟩, Below.refl _ _⟩
      case round =>
        obtain ⟨k, fb, hk, rfl, rfl, hfb, hb2⟩ := hrel
        have HFB := Lib.hid hfb
        have HB2 := Lib.hid hb2
        have hS2 := HS1.out.up hb2
        have q1 := hS2.cell (i := 1) (j := 1) rfl rfl
        obtain ⟨x0, x1, x2⟩ := cell3E (heap_up hb2 HX1.out)
        have m1 := cell_up hb2 HM1.out
        have m3 := cell_up hb2 HM3.out
        have HS2 := Lib.hid hS2
        clear hfb hb2 hS2
        by_cases hkl : k < b.es.length
        case neg =>
          have hke : k = b.es.length := by omega
          clear x0 x1 x2 m1 m3
          cases fb with
          | true =>
            have HHit : Hid (Hf i b.es.length) := Lib.hid ((HHI.out _).2 (by rw [HWI.out, ← hke]; exact HFB.out.1 rfl))
            have HN2 := Lib.hid (HNX.out HHit.out)
            clear hkl
            subst hke
            go_wp2_with fail
            go_roundw
            case rel => exact ⟨i + 1, HLT.out, by go_num, HS2.out, HN2.out⟩
            case measure => exact HM2.out
          | false =>
            have HQ := Lib.hid (HNN.out fun h => by
              have := HFB.out.2 (by rw [← HWI.out, hke]; exact (HHI.out _).1 h)
              cases this)
            clear hkl
            subst hke
            go_wp2_with fail
            go_ret
            exact ⟨ret_bool (by rw [HQ.out]), HS2.out.1⟩
        cases fb with
        | true =>
          have HHit : Hid (Hf i b.es.length) := Lib.hid ((HHI.out _).2 (by
            obtain ⟨k', h1, h2⟩ := HFB.out.1 rfl
            exact ⟨k', by omega, by rw [HWI.out]; exact h2⟩))
          have HN2 := Lib.hid (HNX.out HHit.out)
          have t2 : (k : Int) < (b.es.length : Int) := by omega
          clear hkl x0 x1 x2 m1 m3
          go_wp2_with fail
          go_roundw
          case rel => exact ⟨i + 1, HLT.out, by go_num, HS2.out, HN2.out⟩
          case measure => exact HM2.out
        | false =>
          obtain ⟨g3, o3, rfl, hg3, hc3⟩ := Eds.cells (HU.out.es.below HS2.out.1) hkl
          obtain ⟨e1, e2, e3⟩ := hc3 k hkl
          have j0 : (0 : Int) ≤ (k : Int) := by omega
          have j1 : (k : Int) < (b.es.length : Int) := by omega
          have j2 : ((k : Int)).toNat = k := by omega
          have f0 : (0 : Int) ≤ (F : Int) := by omega
          have f1 : (F : Int) < (l.length : Int) := by have := HFL.out; omega
          have f2 : ((F : Int)).toNat = F := by omega
          have T0 : (0 : Int) ≤ (T : Int) := by omega
          have T1 : (T : Int) < (l.length : Int) := by have := HTL.out; omega
          have T2 : ((T : Int)).toNat = T := by omega
          have HM4 : Hid (b.es.length - ((k : Int) + 1).toNat < b.es.length - ((k : Int)).toNat) := Lib.hid (by omega)
          have HKL := Lib.hid hkl
          have HEQ : Hid (∀ xb, b.es.getD k default = xb → ((xb = (⟨ty, lf, lt⟩ : Ed)) ↔ ∃ k', k' < k + 1 ∧ b.es.getD k' default = ⟨ty, lf, lt⟩)) := Lib.hid fun xb hxb => by
            subst hxb
            constructor
            · intro h; exact ⟨k, by omega, h⟩
            · rintro ⟨k', h1, h2⟩
              by_cases e : k' = k
              · subst e; exact h2
              · have := HFB.out.2 ⟨k', by omega, h2⟩
                cases this
          have HXB := Lib.hid (HEQ.out _ rfl)
          clear hc3 hkl hg3 HEQ
          generalize b.es.getD k default = xb at *
          obtain ⟨ty2, fr2, tt2⟩ := xb
          dsimp only at *
          have HSD : Hid ((fun u : World => u.cell? ⟨w.heap.size + 1, 1, none⟩ = some (.slice (some ⟨g3, o3, none⟩) b.es.length de) ∧ u.cell? ⟨g3, o3 + k * 3, none⟩ = some (.int .i64 ty2) ∧ u.cell? ⟨g3, o3 + k * 3 + 1, none⟩ = some (.int .i64 fr2) ∧ u.cell? ⟨g3, o3 + k * 3 + 2, none⟩ = some (.int .i64 tt2) ∧ u.cell? ⟨gx, 0, none⟩ = some (.int .i64 ty) ∧ u.cell? ⟨gx, 1, none⟩ = some (.int .i64 (F : Int)) ∧ u.cell? ⟨gx, 2, none⟩ = some (.int .i64 (T : Int)) ∧ u.cell? ⟨g4, o4 + F, none⟩ = some (.int .i64 lf) ∧ u.cell? ⟨g4, o4 + T, none⟩ = some (.int .i64 lt)) wr.drew) := Lib.hid ⟨cell_up (below_d _) q1, cell_up (below_d _) e1, cell_up (below_d _) e2, cell_up (below_d _) e3, cell_up (below_d _) x0, cell_up (below_d _) x1, cell_up (below_d _) x2, cell_up (below_d _) m1, cell_up (below_d _) m3⟩
          have HBD := Lib.hid (HB2.out.trans ((below_d wr).mono HB2.out.size))
          go_wp2_with fail
          clear q1 e1 e2 e3 x0 x1 x2 m1 m3
          refine wp_region_noPanic ?_
          refine wp_region_held_drew (S := (fun u : World => u.cell? ⟨w.heap.size + 1, 1, none⟩ = some (.slice (some ⟨g3, o3, none⟩) b.es.length de) ∧ u.cell? ⟨g3, o3 + k * 3, none⟩ = some (.int .i64 ty2) ∧ u.cell? ⟨g3, o3 + k * 3 + 1, none⟩ = some (.int .i64 fr2) ∧ u.cell? ⟨g3, o3 + k * 3 + 2, none⟩ = some (.int .i64 tt2) ∧ u.cell? ⟨gx, 0, none⟩ = some (.int .i64 ty) ∧ u.cell? ⟨gx, 1, none⟩ = some (.int .i64 (F : Int)) ∧ u.cell? ⟨gx, 2, none⟩ = some (.int .i64 (T : Int)) ∧ u.cell? ⟨g4, o4 + F, none⟩ = some (.int .i64 lf) ∧ u.cell? ⟨g4, o4 + T, none⟩ = some (.int .i64 lt))) (by kernel_rfl) (HSD.out) (fun hHeld => ?_)
          refine wpAnyH_take (i := 0) (v := ?_) (oper_at (r := _) rfl) (by kernel_rfl) (by kernel_rfl) (by kernel_rfl) (fun _ _ _ h => h) (Or.inl ⟨by rfl, ?_⟩) (by assumption) ?_
          rotate_left
          · intro w hSw; try dsimp only at hSw
            go_simp
            try with_reducible rfl
          try simp only [Act.put, List.setIfInBounds_toArray, List.set_cons_zero, List.set_cons_succ]
          refine wpAnyH_take (i := 1) (v := ?_) (oper_at (r := _) rfl) (by kernel_rfl) (by kernel_rfl) (by kernel_rfl) (fun _ _ _ h => h) (Or.inl ⟨by rfl, ?_⟩) (by assumption) ?_
          rotate_left
          · intro w hSw; try dsimp only at hSw
            go_simp
            try with_reducible rfl
          try simp only [Act.put, List.setIfInBounds_toArray, List.set_cons_zero, List.set_cons_succ]
          refine wpAnyH_take (i := 2) (v := ?_) (oper_at (r := _) rfl) (by kernel_rfl) (by kernel_rfl) (by kernel_rfl) (fun _ _ _ h => h) (Or.inl ⟨by rfl, ?_⟩) (by assumption) ?_
          rotate_left
          · intro w hSw; try dsimp only at hSw
            go_simp
            try with_reducible rfl
          try simp only [Act.put, List.setIfInBounds_toArray, List.set_cons_zero, List.set_cons_succ]
          refine wpAnyH_take (i := 3) (v := ?_) (oper_at (r := _) rfl) (by kernel_rfl) (by kernel_rfl) (by kernel_rfl) (fun _ _ _ h => h) (Or.inl ⟨by rfl, ?_⟩) (by assumption) ?_
          rotate_left
          · intro w hSw; try dsimp only at hSw
            go_simp
            try with_reducible rfl
          try simp only [Act.put, List.setIfInBounds_toArray, List.set_cons_zero, List.set_cons_succ]
          refine wpAnyH_take (i := 4) (v := ?_) (oper_at (r := _) rfl) (by kernel_rfl) (by kernel_rfl) (by kernel_rfl) (fun _ _ _ h => h) (Or.inl ⟨by rfl, ?_⟩) (by assumption) ?_
          rotate_left
          · intro w hSw; try dsimp only at hSw
            go_simp
            try with_reducible rfl
          try simp only [Act.put, List.setIfInBounds_toArray, List.set_cons_zero, List.set_cons_succ]
          refine wpAnyH_take (i := 5) (v := ?_) (oper_at (r := _) rfl) (by kernel_rfl) (by kernel_rfl) (by kernel_rfl) (fun _ _ _ h => h) (Or.inl ⟨by rfl, ?_⟩) (by assumption) ?_
          rotate_left
          · intro w hSw; try dsimp only at hSw
            go_simp
            try with_reducible rfl
          try simp only [Act.put, List.setIfInBounds_toArray, List.set_cons_zero, List.set_cons_succ]
          refine wpAnyH_take (i := 6) (v := ?_) (oper_at (r := _) rfl) (by kernel_rfl) (by kernel_rfl) (by kernel_rfl) (fun _ _ _ h => h) (Or.inl ⟨by rfl, ?_⟩) (by assumption) ?_
          rotate_left
          · intro w hSw; try dsimp only at hSw
            go_simp
            try with_reducible rfl
          try simp only [Act.put, List.setIfInBounds_toArray, List.set_cons_zero, List.set_cons_succ]
          refine wpAnyH_take (i := 7) (v := ?_) (oper_at (r := _) rfl) (by kernel_rfl) (by kernel_rfl) (by kernel_rfl) (fun _ _ _ h => h) (Or.inl ⟨by rfl, ?_⟩) (by assumption) ?_
          rotate_left
          · intro w hSw; try dsimp only at hSw
            go_simp
            try with_reducible rfl
          try simp only [Act.put, List.setIfInBounds_toArray, List.set_cons_zero, List.set_cons_succ]
          refine wpAnyH_take (i := 8) (v := ?_) (oper_at (r := _) rfl) (by kernel_rfl) (by kernel_rfl) (by kernel_rfl) (fun _ _ _ h => h) (Or.inl ⟨by rfl, ?_⟩) (by assumption) ?_
          rotate_left
          · intro w hSw; try dsimp only at hSw
            go_simp
            try with_reducible rfl
          try simp only [Act.put, List.setIfInBounds_toArray, List.set_cons_zero, List.set_cons_succ]
          refine wpAnyH_take (i := 9) (v := ?_) (oper_at (r := _) rfl) (by kernel_rfl) (by kernel_rfl) (by kernel_rfl) (fun _ _ _ h => h) (Or.inl ⟨by rfl, ?_⟩) (by assumption) ?_
          rotate_left
          · intro w hSw; try dsimp only at hSw
            go_simp
            try with_reducible rfl
          try simp only [Act.put, List.setIfInBounds_toArray, List.set_cons_zero, List.set_cons_succ]
          refine wpAnyH_take (i := 10) (v := ?_) (oper_at (r := _) rfl) (by kernel_rfl) (by kernel_rfl) (by kernel_rfl) (fun _ _ _ h => h) (Or.inl ⟨by rfl, ?_⟩) (by assumption) ?_
          rotate_left
          · intro w hSw; try dsimp only at hSw
            go_simp
            try with_reducible rfl
          try simp only [Act.put, List.setIfInBounds_toArray, List.set_cons_zero, List.set_cons_succ]
          refine wpAnyH_take (i := 11) (v := ?_) (oper_at (r := _) rfl) (by kernel_rfl) (by kernel_rfl) (by kernel_rfl) (fun _ _ _ h => h) (Or.inl ⟨by rfl, ?_⟩) (by assumption) ?_
          rotate_left
          · intro w hSw; try dsimp only at hSw
            go_simp
            try with_reducible rfl
          try simp only [Act.put, List.setIfInBounds_toArray, List.set_cons_zero, List.set_cons_succ]
          refine wpAnyH_take (i := 12) (v := ?_) (oper_at (r := _) rfl) (by kernel_rfl) (by kernel_rfl) (by kernel_rfl) (fun _ _ _ h => h) (Or.inl ⟨by rfl, ?_⟩) (by assumption) ?_
          rotate_left
          · intro w hSw; try dsimp only at hSw
            go_simp
            try with_reducible rfl
          try simp only [Act.put, List.setIfInBounds_toArray, List.set_cons_zero, List.set_cons_succ]
          refine wpAnyH_take (i := 13) (v := ?_) (oper_at (r := _) rfl) (by kernel_rfl) (by kernel_rfl) (by kernel_rfl) (fun _ _ _ h => h) (Or.inl ⟨by rfl, ?_⟩) (by assumption) ?_
          rotate_left
          · intro w hSw; try dsimp only at hSw
            go_simp
            try with_reducible rfl
          try simp only [Act.put, List.setIfInBounds_toArray, List.set_cons_zero, List.set_cons_succ]
          refine wpAnyH_take (i := 14) (v := ?_) (oper_at (r := _) rfl) (by kernel_rfl) (by kernel_rfl) (by kernel_rfl) (fun _ _ _ h => h) (Or.inl ⟨by rfl, ?_⟩) (by assumption) ?_
          rotate_left
          · intro w hSw; try dsimp only at hSw
            go_simp
            try with_reducible rfl
          try simp only [Act.put, List.setIfInBounds_toArray, List.set_cons_zero, List.set_cons_succ]
          refine wpAnyH_take (i := 15) (v := ?_) (oper_at (r := _) rfl) (by kernel_rfl) (by kernel_rfl) (by kernel_rfl) (fun _ _ _ h => h) (Or.inl ⟨by rfl, ?_⟩) (by assumption) ?_
          rotate_left
          · intro w hSw; try dsimp only at hSw
            go_simp
            try with_reducible rfl
          try simp only [Act.put, List.setIfInBounds_toArray, List.set_cons_zero, List.set_cons_succ]
          refine wpAnyH_take (i := 16) (v := ?_) (oper_at (r := _) rfl) (by kernel_rfl) (by kernel_rfl) (by kernel_rfl) (fun _ _ _ h => h) (Or.inl ⟨by rfl, ?_⟩) (by assumption) ?_
          rotate_left
          · intro w hSw; try dsimp only at hSw
            go_simp
            try with_reducible rfl
          try simp only [Act.put, List.setIfInBounds_toArray, List.set_cons_zero, List.set_cons_succ]
          refine wpAnyH_take (i := 17) (v := ?_) (oper_at (r := _) rfl) (by kernel_rfl) (by kernel_rfl) (by kernel_rfl) (fun _ _ _ h => h) (Or.inl ⟨by rfl, ?_⟩) (by assumption) ?_
          rotate_left
          · intro w hSw; try dsimp only at hSw
            go_simp
            try with_reducible rfl
          try simp only [Act.put, List.setIfInBounds_toArray, List.set_cons_zero, List.set_cons_succ]
          refine wpAnyH_take (i := 18) (v := (.bool (decide ((⟨ty2, fr2, tt2⟩ : Ed) = ⟨ty, lf, lt⟩)))) (oper_at (r := _) rfl) (by kernel_rfl) (by kernel_rfl) (by kernel_rfl) (fun _ _ _ h => h) (Or.inl ⟨by rfl, (by intro w hSw; go_simp; by_cases h1 : ty2 = ty <;> by_cases h2 : fr2 = lf <;> by_cases h3 : tt2 = lt <;> simp [h1, h2, h3])⟩) (by assumption) ?_
          try simp only [Act.put, List.setIfInBounds_toArray, List.set_cons_zero, List.set_cons_succ]
          refine wpAnyH_take (i := 19) (v := ?_) (oper_at (r := _) rfl) (by kernel_rfl) (by kernel_rfl) (by kernel_rfl) (fun _ _ _ h => h) (Or.inl ⟨by rfl, ?_⟩) (by assumption) ?_
          rotate_left
          · intro w hSw; try dsimp only at hSw
            go_simp
            try with_reducible rfl
          try simp only [Act.put, List.setIfInBounds_toArray, List.set_cons_zero, List.set_cons_succ]
          refine wpAnyH_done (by kernel_rfl) ?_ _
          refine NoPanic.normal ?_
          go_wp2_with fail
          go_roundw
          case rel =>
            refine ⟨k + 1, _, HKL.out, by go_num, rfl, ?_, HBD.out⟩
            have h := HXB.out
            rw [Ed.mk.injEq] at h
            simp only [Bool.and_eq_true, decide_eq_true_iff]
            exact h
          case measure => exact HM4.out
    · have hie : i = a.es.length := by omega
      have HQ := Lib.hid (HALL.out fun j h hj => HA.out j (by omega) hj)
      subst hie
      go_wp2_with fail
      go_ret
      exact ⟨ret_bool (by rw [HQ.out]), hbel⟩

end Go.Proofs.YtaeelanbkdkppaaDoor

/-
  Rows of morphisms that a function hands on and on: append tq such a row, and what keeps it.
-/
namespace Go.Proofs.YtaeelanbkdkppaaDoor
open Go.RowKit Go.Shelf

/-- a row of morphisms whose slices lie in other blocks -/
def RowQ (base : Nat) (V : World) (v : Value) (ms : List Mo) : Prop := ∃ M, RowM base M V v ms ∧ ∀ b, M b → b < V.heap.size ∧ v.ownBlock ≠ some b
/-- the row's block is the same, or new -/
def OwnTo (v v' : Value) (n : Nat) : Prop := v'.ownBlock = v.ownBlock ∨ ∃ g, v'.ownBlock = some g ∧ n ≤ g
theorem OwnTo.refl (v : Value) (n : Nat) : OwnTo v v n := .inl rfl
theorem OwnTo.trans {v v' v'' : Value} {n n' : Nat} (h : OwnTo v v' n) (k : OwnTo v' v'' n') (hn : n ≤ n') : OwnTo v v'' n := by
  rcases k with k | ⟨g, k1, k2⟩
  · rcases h with h | ⟨g, h1, h2⟩
    · exact .inl (k.trans h)
    · exact .inr ⟨g, k.trans h1, h2⟩
  · exact .inr ⟨g, k1, Nat.le_trans hn k2⟩
theorem RowQ.nil (base : Nat) (V : World) : RowQ base V (.slice none 0 0) [] := ⟨fun _ => False, RowM.nil _ _ _, fun _ h => h.elim⟩
theorem RowQ.up {base : Nat} {V V' : World} {v : Value} {ms : List Mo} (h : RowQ base V v ms) (hb : Below V.heap.size V V') : RowQ base V' v ms := by
  obtain ⟨M, h1, h2⟩ := h
  exact ⟨M, h1.same hb.size (fun g hg => hb.block g (h1.lt g hg).2) (fun b hm _ => hb.block b (h2 b hm).1), fun b hm => ⟨Nat.lt_of_lt_of_le (h2 b hm).1 hb.size, (h2 b hm).2⟩⟩
theorem RowQ.lt {base : Nat} {V : World} {v : Value} {ms : List Mo} (h : RowQ base V v ms) : ∀ k, v.ownBlock = some k → base ≤ k ∧ k < V.heap.size := by
  obtain ⟨M, h1, _⟩ := h
  exact h1.lt
theorem RowQ.far {t' : TypeId} {base B : Nat} {V : World} {v : Value} {ms : List Mo} {cs : Array Value} (h : RowQ base V v ms) (hb : V.heap[B]? = some (.cells cs t' (0, 0))) (hne : 27 ≠ t') : v.ownBlock ≠ some B := by
  obtain ⟨M, h1, _⟩ := h
  exact h1.far hb hne
theorem RowQ.slice {base : Nat} {V : World} {v : Value} {ms : List Mo} (h : RowQ base V v ms) : ∃ A c, v = .slice A ms.length c := by
  obtain ⟨M, ⟨vs, h1, _⟩, _⟩ := h
  exact slice_of h1
theorem RowQ.isP {base : Nat} {V : World} {v : Value} {ms : List Mo} (h : RowQ base V v ms) : IsP V v ms := by
  obtain ⟨M, h1, _⟩ := h
  exact h1.isP
theorem heap_gr {base : Nat} {V V' : World} {v : Value} {ms : List Mo} {g : Nat} {cs : Array Value} {t' : TypeId} (hr : RowQ base V v ms) (hk : V.grownBy V' v.ownBlock) (hb : V.heap[g]? = some (.cells cs t' (0, 0))) (hne : 27 ≠ t') : V'.heap[g]? = some (.cells cs t' (0, 0)) := by
  rw [hk.block g (heap_lt hb) (hr.far hb hne).symm]
  exact hb
theorem own_gr {base B : Nat} {V V' : World} {v x : Value} {ms : List Mo} {xs : List Int} (hr : RowQ base V v ms) (hk : V.grownBy V' v.ownBlock) (ho : OwnI V B x xs) : OwnI V' B x xs := by
  refine OwnE.kept ho hk ?_
  rcases ho.2 with ⟨rfl, _⟩ | ⟨g, cap, cur, rfl, _, hg, _⟩
  · exact .inl rfl
  · exact .inr fun e => hr.far hg (by decide) e.symm
theorem below_grq {base : Nat} {w V V' : World} {v : Value} {ms : List Mo} (hb : Below base w V) (hw : base ≤ w.heap.size) (hr : RowQ base V v ms) (hk : V.grownBy V' v.ownBlock) : Below base w V' :=
  hb.trans ((Below.refl base V).grown hk (Nat.le_trans hw hb.size) (fun k h => (hr.lt k h).1))
theorem gr_below {V V' : World} {r : Option Nat} (hb : Below V.heap.size V V') : V.grownBy V' r := ⟨hb.os, hb.tape, hb.output, hb.size, fun k hk _ => hb.block k hk⟩
/-- one call after another, each with its row -/
theorem gr_trans {a b c : World} {v v' : Value} (h : a.grownBy b v.ownBlock) (k : b.grownBy c v'.ownBlock) (ho : OwnTo v v' a.heap.size) : a.grownBy c v.ownBlock := by
  refine ⟨k.os.trans h.os, k.tape.trans h.tape, k.output.trans h.output, Nat.le_trans h.size k.size, fun i hi hr => ?_⟩
  rw [k.block i (Nat.lt_of_lt_of_le hi h.size) ?_, h.block i hi hr]
  rcases ho with e | ⟨g, e, hg⟩
  · rw [e]; exact hr
  · rw [e]; intro e2; injection e2 with e2; omega
theorem RowQ.snoc {base : Nat} {V V' : World} {v v' v1 v2 : Value} {ms : List Mo} {m : Mo} {vs : List Value} {M G : Blks} (h1 : V.ownsRow base 27 2 v ms.length vs)
    (h2 : ∀ i (h : i < ms.length), ∃ v1 v2, vs[i * 2]? = some v1 ∧ vs[i * 2 + 1]? = some v2 ∧ InG M V v1 ms[i].ns ∧ InG M V v2 ms[i].es) (hM : ∀ b, M b → b < V.heap.size ∧ v.ownBlock ≠ some b) (k1 : InG G V v1 m.ns) (k2 : InG G V v2 m.es) (hG : ∀ b, G b → b < V.heap.size ∧ v.ownBlock ≠ some b)
    (hg : V.grownBy V' v.ownBlock) (ho : V'.ownsRow base 27 2 v' (ms.length + 1) (vs ++ [v1, v2])) (hn : v'.ownBlock = v.ownBlock ∨ v'.ownBlock = some V.heap.size) : RowQ base V' v' (ms ++ [m]) := by
  have hMG : ∀ b, M b ∨ G b → b < V.heap.size ∧ v.ownBlock ≠ some b := fun b h => h.elim (hM b) (hG b)
  refine ⟨fun b => M b ∨ G b, RowM.snoc h1 h2 k1 k2 hg.size (fun b hb hl => hg.block b hl (hMG b hb).2.symm) ho, fun b hb => ⟨Nat.lt_of_lt_of_le (hMG b hb).1 hg.size, ?_⟩⟩
  rcases hn with e | e
  · rw [e]; exact (hMG b hb).2
  · rw [e]; intro e2; injection e2 with e2; have := (hMG b hb).1; omega
theorem wpList_append_mor {w : World} {ops : Array Oper} {rest : List Oper} {o : Oper} {a : Act} {Q : Exit → Act → World → Prop} (hgd : o.guard = none) (s x : Operand)
    (ho : o.op = .call { callee := .builtin .append, args := #[s, x], argTypes := #[48, 48] }) (base : Nat) (v : Value) (k : Nat) (vs : List Value) (hs : a.eval s = v) (hown : w.ownsRow base 27 2 v k vs) (g c : Nat) (m1 m2 : Value) (hx : a.eval x = .slice (some ⟨g, 0, none⟩) 1 c)
    (h1 : w.cell? ⟨g, 0, none⟩ = some m1) (h2 : w.cell? ⟨g, 1, none⟩ = some m2) (o1 : m1.oneCell' = true) (o2 : m2.oneCell' = true) (hl : k ≤ 1000000) (hbase : base ≤ w.heap.size)
    (hK : ∀ v' w', w'.ownsRow base 27 2 v' (k + 1) (vs ++ [m1, m2]) → w.grownBy w' v.ownBlock → (v'.ownBlock = v.ownBlock ∨ v'.ownBlock = some w.heap.size) → wpList Tryd.prog ops Q rest (a.put o.dst v') w') :
    wpList Tryd.prog ops Q (o :: rest) a w := by
  refine wpList_plain hgd fun K hK' => ?_
  obtain ⟨i0, hi, hz0, hz1, hz2⟩ := info_parts infoMor
  obtain ⟨v', w', hrun, r1, r2, _, r4⟩ := run_append_own_at (P := Tryd.prog) w base 48 o.type 27 i0 _ 2 48 Tryd.underlying48 hi hz0 hz1 hz2 rfl (by decide) v k vs hown ⟨g, 0, none⟩ 1 c [m1, m2] rfl (by
    intro j u hj
    rw [addr_plain, Nat.zero_add]
    match j, hj with
    | 0, hj => simp at hj; subst hj; exact h1
    | 1, hj => simp at hj; subst hj; exact h2
    | j + 2, hj => simp at hj) (by
    intro u hu
    simp at hu
    rcases hu with rfl | rfl
    · exact o1
    · exact o2) (by unfold maxLen; omega) (by omega) hbase
  unfold Oper.wp execOp
  simp only [ho, resolve, invoke, builtin, Sem.run_bind, Sem.run_pure, Result.andThen_ok, List.map_toArray, List.map_cons, List.map_nil, hs, hx, hrun]
  exact hK' _ _ (hK v' w' r1 r2 r4)

/-! the first 2001 -/
theorem take_app {α : Type} (ps A B : List α) (n : Nat) : ((ps ++ A).take n ++ B).take n = (ps ++ (A ++ B)).take n := by
  rw [← List.append_assoc, List.take_append, List.take_append (l₁ := ps ++ A), List.take_take, Nat.min_self, List.length_take]
  rcases Nat.le_total n (ps ++ A).length with h | h
  · rw [Nat.min_eq_left h, Nat.sub_self, show n - (ps ++ A).length = 0 by omega]
  · rw [Nat.min_eq_right h]
theorem take_full {α : Type} {ps A : List α} {n : Nat} (h : n ≤ ps.length) (h2 : ps.length ≤ n) : (ps ++ A).take n = ps := by
  rw [List.take_append, show n - ps.length = 0 by omega, List.take_zero, List.append_nil, List.take_of_length_le h2]
theorem take_len {α : Type} (A : List α) (n : Nat) : (A.take n).length ≤ n := by rw [List.length_take]; omega

end Go.Proofs.YtaeelanbkdkppaaDoor

/-
  The reference's edges: all ways tq go on with the edges' images.
-/
namespace Go.Proofs.YtaeelanbkdkppaaDoor
open Go.RowKit Go.Shelf

/-- what edges and nodes hand over -/
abbrev Hands (f : FuncId) (args : Array Value) (u : World) (B : Nat) (v : Value) (L : List Mo) : Prop := Calls Tryd.prog f args u fun e u' => ∃ v', e = .returned v' ∧ RowQ B u' v' L ∧ u.grownBy u' v.ownBlock ∧ OwnTo v v' u.heap.size
def EdgC (a b : Gr) (An : Option Addr) (cn : Nat) (Ae : Option Addr) (ce : Nat) (Bn : Option Addr) (dn : Nat) (Be : Option Addr) (de : Nat) (w : World) (d : Nat) : Prop := ∀ (u : World) (vN vI v : Value) (l es : List Int) (ps : List Mo), Below w.heap.size w u → OwnI u w.heap.size vN l → OwnI u w.heap.size vI es → RowQ w.heap.size u v ps → ps.length ≤ 2001 → es.length + d = a.es.length → l.length = a.ns.length →
  Hands 71 #[gval An a.ns.length cn Ae a.es.length ce, gval Bn b.ns.length dn Be b.es.length de, vN, vI, v] u w.heap.size v ((ps ++ edR a b l d es).take 2001)

set_option maxRecDepth 100000 in
set_option maxHeartbeats 4000000 in
/-- the list is full -/
theorem edg_full (a b : Gr) (An : Option Addr) (cn : Nat) (Ae : Option Addr) (ce : Nat) (Bn : Option Addr) (dn : Nat) (Be : Option Addr) (de : Nat) (w u : World) (vN vI v : Value) (ps A : List Mo) (hR : RowQ w.heap.size u v ps) (h1 : 2000 < ps.length) (h2 : ps.length ≤ 2001) :
    Hands 71 #[gval An a.ns.length cn Ae a.es.length ce, gval Bn b.ns.length dn Be b.es.length de, vN, vI, v] u w.heap.size v ((ps ++ A).take 2001) := by
  rw [take_full (by omega) h2]
  have t1 : (2000 : Int) < (ps.length : Int) := by omega
  have HR := Lib.hid hR
  obtain ⟨rA, rc, rfl⟩ := hR.slice
  clear hR
  go_enter Tryd.func71, Tryd.ntmps71
  go_wp2_with fail
  go_ret
  have hb : Below u.heap.size u ((u.alloc (.cells #[.slice An a.ns.length cn, .slice Ae a.es.length ce] 25)).alloc (.cells #[.slice Bn b.ns.length dn, .slice Be b.es.length de] 25)) := ((Below.refl _ _).alloc (Nat.le_refl _) _).alloc (by simp) _
  exact ⟨_, rfl, HR.out.up hb, gr_below hb, OwnTo.refl _ _⟩

set_option maxRecDepth 100000 in
set_option maxHeartbeats 4000000 in
/-- the last edge has its image -/
theorem edg_end (a b : Gr) (An : Option Addr) (cn : Nat) (Ae : Option Addr) (ce : Nat) (Bn : Option Addr) (dn : Nat) (Be : Option Addr) (de : Nat) (w : World) (hl1 : a.ns.length ≤ 1000) (hl2 : a.es.length ≤ 1000) : EdgC a b An cn Ae ce Bn dn Be de w 0 := by
  intro u vN vI v l es ps hu hN hI hR hps hd hl
  by_cases hbig : 2000 < ps.length
  · exact edg_full a b An cn Ae ce Bn dn Be de w u vN vI v ps _ hR hbig hps
  have t1 : ¬ (2000 : Int) < (ps.length : Int) := by omega
  have t2 : (es.length : Int) = (a.es.length : Int) := by omega
  have e0 : (ps ++ edR a b l 0 es).take 2001 = ps ++ [⟨l, es⟩] := by
    simp only [edR]
    exact List.take_of_length_le (by simp; omega)
  rw [e0]
  have HPS : Hid (ps.length ≤ 2000) := Lib.hid (by omega)
  have HLL : Hid (l.length ≤ 1000 ∧ es.length ≤ 1000) := Lib.hid ⟨by omega, by omega⟩
  obtain ⟨W0, hW0⟩ : ∃ W0, W0 = (u.alloc (.cells #[.slice An a.ns.length cn, .slice Ae a.es.length ce] 25)).alloc (.cells #[.slice Bn b.ns.length dn, .slice Be b.es.length de] 25) := ⟨_, rfl⟩
  have hb : Below u.heap.size u W0 := by rw [hW0]; exact ((Below.refl _ _).alloc (Nat.le_refl _) _).alloc (by simp) _
  have HSV : Hid (SV u [([.slice An a.ns.length cn, .slice Ae a.es.length ce], 25), ([.slice Bn b.ns.length dn, .slice Be b.es.length de], 25)] W0) := Lib.hid (by rw [hW0]; exact SV.push (SV.push (SV.nil u) rfl [.slice An a.ns.length cn, .slice Ae a.es.length ce] 25) (by simp) [.slice Bn b.ns.length dn, .slice Be b.es.length de] 25)
  have HN := Lib.hid (OwnE.below hN hb (Nat.le_refl _))
  have HI := Lib.hid (OwnE.below hI hb (Nat.le_refl _))
  have HRW := Lib.hid (hR.up hb)
  have HBW := Lib.hid hb
  have HWU := Lib.hid hu.size
  obtain ⟨rA, rc, rfl⟩ := hR.slice
  obtain ⟨nA, nc, rfl⟩ := OwnE.slice hN
  obtain ⟨iA, ic, rfl⟩ := OwnE.slice hI
  have c1 := HSV.out.cell (i := 0) (j := 1) rfl rfl
  simp only [Nat.add_zero] at c1
  clear hN hI hR hu hb hd hbig hps hl e0
  go_enter Tryd.func71, Tryd.ntmps71
  go_upto_region 4 with fail
  rw [← hW0]
  clear hW0 c1
  have HL1 := Lib.hid (heap_alloc_new W0 (.cells #[] 3))
  have HA1 : Hid (Below W0.heap.size W0 (W0.alloc (.cells #[] 3))) := Lib.hid ((Below.refl _ _).alloc (Nat.le_refl _) _)
  obtain ⟨A0, k0, e1, hr1⟩ := OwnE.reads HN.out
  injection e1 with e1 _ e2
  subst e1 e2
  have HR1 := Lib.hid (Reads.below hr1 HA1.out)
  clear hr1
  go_wp2_with (at_builtin; refine wpList_append_many (E := EInt) (w := W0.alloc (.cells #[] 3)) rfl _ _ 22 3 rfl Tryd.underlying22 infoInt rfl (by decide) (by decide) W0.heap.size _ [] rfl ?y1 nA l.length nc W0.heap.size l rfl rfl ?y2 ?y3 ?y4 ?y5 ?_)
  case y1 => exact OwnE.empty HL1.out (Nat.le_refl _)
  case y2 => exact HR1.out
  case y4 => have := HLL.out.1; omega
  intro v1 w1 ho1 _ hb1 _
  have HO1 := Lib.hid (ho1.cast (List.nil_append l))
  have HB1 := Lib.hid (HA1.out.trans hb1)
  obtain ⟨a1, d1, rfl⟩ := OwnE.slice HO1.out
  clear ho1 hb1 HL1 HA1 HR1
  have HL2 := Lib.hid (heap_alloc_new w1 (.cells #[] 3))
  have HA2 : Hid (Below w1.heap.size w1 (w1.alloc (.cells #[] 3))) := Lib.hid ((Below.refl _ _).alloc (Nat.le_refl _) _)
  obtain ⟨A0, k0, e1, hr1⟩ := OwnE.reads (OwnE.below HI.out HB1.out (Nat.le_refl _))
  injection e1 with e1 _ e2
  subst e1 e2
  have HR1 := Lib.hid (Reads.below hr1 HA2.out)
  clear hr1
  go_wp2_with (at_builtin; refine wpList_append_many (E := EInt) (w := w1.alloc (.cells #[] 3)) rfl _ _ 22 3 rfl Tryd.underlying22 infoInt rfl (by decide) (by decide) w1.heap.size _ [] rfl ?z1 iA es.length ic w1.heap.size es rfl rfl ?z2 ?z3 ?z4 ?z5 ?_)
  case z1 => exact OwnE.empty HL2.out (Nat.le_refl _)
  case z2 => exact HR1.out
  case z4 => have := HLL.out.2; omega
  intro v2 w2 ho2 _ hb2 _
  have HO2 := Lib.hid (ho2.cast (List.nil_append es))
  have HB2 := Lib.hid (HA2.out.trans hb2)
  obtain ⟨a2, d2, rfl⟩ := OwnE.slice HO2.out
  have HO1 := Lib.hid (OwnE.below HO1.out HB2.out (Nat.le_refl _))
  have HBB := Lib.hid (HB1.out.trans (HB2.out.mono HB1.out.size))
  have HBX := Lib.hid HB1.out.size
  clear ho2 hb2 HL2 HA2 HR1 HB1 HB2
  have HM : Hid (∃ V, V = w2.alloc (.cells #[.slice a1 l.length d1, .slice a2 es.length d2] 27)) := Lib.hid ⟨_, rfl⟩
  obtain ⟨V, hV⟩ := HM.out
  have hbV : Below w2.heap.size w2 V := by rw [hV]; exact (Below.refl _ _).alloc (Nat.le_refl _) _
  have hcV : V.heap[w2.heap.size]? = some (.cells #[.slice a1 l.length d1, .slice a2 es.length d2] 27 (0, 0)) := by rw [hV]; exact heap_alloc_new _ _
  have HSZ : Hid (V.heap.size = w2.heap.size + 1) := Lib.hid (by rw [hV]; simp)
  have HRV := Lib.hid ((HRW.out.up HBB.out).up hbV)
  have HBV := Lib.hid (HBB.out.trans (hbV.mono HBB.out.size))
  have HG1 := Lib.hid ((InG.own HO1.out).up hbV.size fun b _ hl => hbV.block b hl)
  have HG2 := Lib.hid ((InG.own HO2.out).up hbV.size fun b _ hl => hbV.block b hl)
  have HCV := Lib.hid (cell2 hcV)
  have HN1 : Hid (∀ b, (Value.slice a1 l.length d1).ownBlock = some b → W0.heap.size ≤ b ∧ b < V.heap.size) := Lib.hid fun b h => ⟨(OwnE.lt HO1.out b h).1, Nat.lt_of_lt_of_le (OwnE.lt HO1.out b h).2 hbV.size⟩
  have HN2 : Hid (∀ b, (Value.slice a2 es.length d2).ownBlock = some b → W0.heap.size ≤ b ∧ b < V.heap.size) := Lib.hid fun b h => ⟨Nat.le_trans HBX.out (OwnE.lt HO2.out b h).1, Nat.lt_of_lt_of_le (OwnE.lt HO2.out b h).2 hbV.size⟩
  have HUV : Hid (Below u.heap.size u V) := Lib.hid (HBW.out.trans (HBV.out.mono HBW.out.size))
  have HLT : Hid (∀ b, (Value.slice rA ps.length rc).ownBlock = some b → b < W0.heap.size) := Lib.hid fun b h => (HRW.out.lt b h).2
  obtain ⟨M, ⟨vs, hr, hvs⟩, hM⟩ := HRV.out
  have HO := Lib.hid hr
  have HVS := Lib.hid hvs
  have HMM := Lib.hid hM
  have HBS : Hid (w.heap.size ≤ V.heap.size) := Lib.hid (Nat.le_trans HWU.out HUV.out.size)
  clear hr hvs hM hbV hcV HM HI HN HO1 HO2 HBX HRV HRW HSV HBB
  go_wp2_with (at_builtin; rw [← hV]; refine wpList_append_mor (w := V) rfl _ _ rfl w.heap.size (.slice rA ps.length rc) ps.length vs rfl HO.out w2.heap.size 1 _ _ rfl HCV.out.1 HCV.out.2 rfl rfl (by have := HPS.out; omega) HBS.out ?_)
  intro v3 w3 r1 r2 r3
  rw [← hV] at r2
  rw [← HSZ.out] at r3
  go_wp2_with fail
  go_ret
  have hG : ∀ b, ((Value.slice a1 l.length d1).ownBlock = some b ∨ (Value.slice a2 es.length d2).ownBlock = some b) → b < V.heap.size ∧ (Value.slice rA ps.length rc).ownBlock ≠ some b := fun b h => by
    have hh : W0.heap.size ≤ b ∧ b < V.heap.size := h.elim (HN1.out b) (HN2.out b)
    exact ⟨hh.2, fun e => by have := HLT.out b e; omega⟩
  refine ⟨v3, rfl, RowQ.snoc (m := ⟨l, es⟩) HO.out HVS.out HMM.out (HG1.out.mono fun b h => Or.inl h) (HG2.out.mono fun b h => Or.inr h) hG r2 r1 r3, grown_trans (gr_below HUV.out) r2, r3.imp id fun e => ⟨_, e, HUV.out.size⟩⟩

/-! the step -/
/-- what the loop keeps: the boxes, the two rows of numbers, the list so far -/
structure EdJ (a b : Gr) (An : Option Addr) (cn : Nat) (Ae : Option Addr) (ce : Nat) (Bn : Option Addr) (dn : Nat) (Be : Option Addr) (de : Nat) (w u : World) (v0 vN vI : Value) (l es : List Int) (x : Ed) (v : Value) (L : List Mo) (V : World) : Prop where
  b1 : V.heap[u.heap.size]? = some (.cells #[.slice An a.ns.length cn, .slice Ae a.es.length ce] 25 (0, 0))
  b2 : V.heap[u.heap.size + 1]? = some (.cells #[.slice Bn b.ns.length dn, .slice Be b.es.length de] 25 (0, 0))
  b3 : V.heap[u.heap.size + 1 + 1]? = some (.cells #[.int .i64 x.ty, .int .i64 x.fr, .int .i64 x.tq] 65 (0, 0))
  rn : OwnI V w.heap.size vN l
  ri : OwnI V w.heap.size vI es
  row : RowQ w.heap.size V v L
  gr : u.grownBy V v0.ownBlock
  ow : OwnTo v0 v u.heap.size
  be : Below w.heap.size w V
theorem EdJ.up {a b : Gr} {An : Option Addr} {cn : Nat} {Ae : Option Addr} {ce : Nat} {Bn : Option Addr} {dn : Nat} {Be : Option Addr} {de : Nat} {w u : World} {v0 vN vI : Value} {l es : List Int} {x : Ed} {v : Value} {L : List Mo} {V V' : World} (h : EdJ a b An cn Ae ce Bn dn Be de w u v0 vN vI l es x v L V) (hb : Below V.heap.size V V') : EdJ a b An cn Ae ce Bn dn Be de w u v0 vN vI l es x v L V' :=
  ⟨heap_up hb h.b1, heap_up hb h.b2, heap_up hb h.b3, OwnE.below h.rn hb (Nat.le_refl _), OwnE.below h.ri hb (Nat.le_refl _), h.row.up hb, grown_trans h.gr (gr_below hb), h.ow, h.be.trans (hb.mono h.be.size)⟩
theorem EdJ.next {a b : Gr} {An : Option Addr} {cn : Nat} {Ae : Option Addr} {ce : Nat} {Bn : Option Addr} {dn : Nat} {Be : Option Addr} {de : Nat} {w u : World} {v0 vN vI : Value} {l es : List Int} {x : Ed} {v v' : Value} {L L' : List Mo} {V V' : World} (h : EdJ a b An cn Ae ce Bn dn Be de w u v0 vN vI l es x v L V) (hr : RowQ w.heap.size V' v' L') (hg : V.grownBy V' v.ownBlock) (ho : OwnTo v v' V.heap.size) : EdJ a b An cn Ae ce Bn dn Be de w u v0 vN vI l es x v' L' V' :=
  ⟨heap_gr h.row hg h.b1 (by decide), heap_gr h.row hg h.b2 (by decide), heap_gr h.row hg h.b3 (by decide), own_gr h.row hg h.rn, own_gr h.row hg h.ri, hr, gr_trans h.gr hg h.ow, h.ow.trans ho h.gr.size, below_grq h.be (Nat.le_refl _) h.row hg⟩
theorem one_cells {W : World} {g : Nat} {k : Int} {t : TypeId} (h : W.heap[g]? = some (.cells #[.int .i64 k] t (0, 0))) : ∀ (j : Nat) (u : Value), (EInt.enc k)[j]? = some u → W.cell? ((⟨g, 0, none⟩ : Addr).add j) = some u := fun j u hu => by
  rw [addr_plain, Nat.zero_add, cell_of_row _ _ j _ _ _ h]
  simpa [EInt] using hu

set_option maxRecDepth 100000 in
set_option maxHeartbeats 8000000 in
theorem edg_step (a b : Gr) (An : Option Addr) (cn : Nat) (Ae : Option Addr) (ce : Nat) (Bn : Option Addr) (dn : Nat) (Be : Option Addr) (de : Nat) (w : World) (hT : GrAt w An cn Ae ce a) (hU : GrAt w Bn dn Be de b) (hv : validE a = 0) (d : Nat) (ih : EdgC a b An cn Ae ce Bn dn Be de w d) : EdgC a b An cn Ae ce Bn dn Be de w (d + 1) := by
  intro u vN vI v l es ps hu hN hI hR hps hd hl
  by_cases hbig : 2000 < ps.length
  · exact edg_full a b An cn Ae ce Bn dn Be de w u vN vI v ps _ hR hbig hps
  obtain ⟨q1, q2, _⟩ := valid_zero hv
  have hlt : es.length < a.es.length := by omega
  have hva := valid_at hv hlt
  have lbe := Nat.le_trans hU.ce.1 hU.ce.2
  unfold maxLen at lbe
  have HIH := Lib.hid ih
  have HVA := Lib.hid hva
  have HLL : Hid (l.length = a.ns.length ∧ l.length ≤ 1000 ∧ es.length ≤ 1000 ∧ es.length + (d + 1) = a.es.length) := Lib.hid ⟨hl, by omega, by omega, hd⟩
  have t1 : ¬ (2000 : Int) < (ps.length : Int) := by omega
  have t2 : ((es.length : Int) == (a.es.length : Int)) = false := by simp; omega
  have t3 : (0 : Int) ≤ (es.length : Int) := by omega
  have t4 : (es.length : Int) < (a.es.length : Int) := by omega
  have t5 : ((es.length : Int)).toNat = es.length := by omega
  obtain ⟨St, hSt⟩ : ∃ St : Nat → List Mo, St = fun k => if b.es.getD k default = want a l es.length then edR a b l d (es ++ [(k : Int)]) else [] := ⟨_, rfl⟩
  have hE : edR a b l (d + 1) es = (List.range b.es.length).flatMap St := by rw [hSt]; rfl
  have HY : Hid (∀ k, b.es.getD k default = want a l es.length → St k = edR a b l d (es ++ [(k : Int)])) := Lib.hid fun k h => by rw [hSt]; exact if_pos h
  have HZ : Hid (∀ k, ¬ b.es.getD k default = want a l es.length → St k = []) := Lib.hid fun k h => by rw [hSt]; exact if_neg h
  have HW : Hid (want a l es.length = ⟨(a.es.getD es.length default).ty, l.getD (a.es.getD es.length default).fr.toNat 0, l.getD (a.es.getD es.length default).tq.toNat 0⟩) := Lib.hid rfl
  have HSUC : Hid (∀ k, ((ps ++ (List.range k).flatMap St).take 2001 ++ St k).take 2001 = (ps ++ (List.range (k + 1)).flatMap St).take 2001) := Lib.hid fun k => by
    rw [take_app, List.range_succ, List.flatMap_append, List.flatMap_singleton]
  rw [hE]
  have HBIG := Lib.hid hbig
  have HPS := Lib.hid hps
  clear hE hSt hbig hps hd hl hva
  generalize want a l es.length = wt at *
  obtain ⟨g2, o2, rfl, hg2, hc2⟩ := Eds.cells (hT.es.below hu) hlt
  obtain ⟨d1, d2, d3⟩ := hc2 es.length hlt
  generalize a.es.getD es.length default = xa at *
  have HE0 : Hid (∃ V, V = ((u.alloc (.cells #[.slice An a.ns.length cn, .slice (some ⟨g2, o2, none⟩) a.es.length ce] 25)).alloc (.cells #[.slice Bn b.ns.length dn, .slice Be b.es.length de] 25)).alloc (.cells #[.int .i64 xa.ty, .int .i64 xa.fr, .int .i64 xa.tq] 65)) := Lib.hid ⟨_, rfl⟩
  obtain ⟨V0, hV0⟩ := HE0.out
  have hb0 : Below u.heap.size u V0 := by rw [hV0]; exact (((Below.refl _ _).alloc (Nat.le_refl _) _).alloc (by simp) _).alloc (by simp; omega) _
  have HJ0 : Hid (EdJ a b An cn (some ⟨g2, o2, none⟩) ce Bn dn Be de w u v vN vI l es xa v ((ps ++ (List.range 0).flatMap St).take 2001) V0) := Lib.hid ⟨by rw [hV0]; simp only [at_alloc, size_alloc]; repeat (first | rfl | (split; · (first | rfl | omega))), by rw [hV0]; simp only [at_alloc, size_alloc]; repeat (first | rfl | (split; · (first | rfl | omega))), by rw [hV0]; simp only [at_alloc, size_alloc]; repeat (first | rfl | (split; · (first | rfl | omega))), OwnE.below hN hb0 (Nat.le_refl _), OwnE.below hI hb0 (Nat.le_refl _), by simpa [List.take_of_length_le HPS.out] using hR.up hb0, gr_below hb0, OwnTo.refl _ _, hu.trans (hb0.mono hu.size)⟩
  have HU := Lib.hid hU
  have HT := Lib.hid hT
  have HRS := Lib.hid hR
  have HUB := Lib.hid hu
  have s0 : ((u.alloc (.cells #[.slice An a.ns.length cn, .slice (some ⟨g2, o2, none⟩) a.es.length ce] 25)).alloc (.cells #[.slice Bn b.ns.length dn, .slice Be b.es.length de] 25)).cell? ⟨u.heap.size, 1, none⟩ = some (.slice (some ⟨g2, o2, none⟩) a.es.length ce) := by
    refine cell_of_row _ _ 1 #[.slice An a.ns.length cn, .slice (some ⟨g2, o2, none⟩) a.es.length ce] 25 (0, 0) ?_
    simp only [at_alloc, size_alloc]; repeat (first | rfl | (split; · (first | rfl | omega)))
  have hb2 : Below u.heap.size u ((u.alloc (.cells #[.slice An a.ns.length cn, .slice (some ⟨g2, o2, none⟩) a.es.length ce] 25)).alloc (.cells #[.slice Bn b.ns.length dn, .slice Be b.es.length de] 25)) := ((Below.refl _ _).alloc (Nat.le_refl _) _).alloc (by simp) _
  have d1 := cell_up hb2 d1
  have d2 := cell_up hb2 d2
  have d3 := cell_up hb2 d3
  obtain ⟨rA, rc, hve⟩ := hR.slice
  obtain ⟨nA, nc, rfl⟩ := OwnE.slice hN
  obtain ⟨iA, ic, rfl⟩ := OwnE.slice hI
  obtain ⟨ty, fr, tt⟩ := xa
  dsimp only at *
  clear hN hI hR hu hT hU hb0 hb2 hc2 hg2 hlt HE0
  subst hve
  go_enter Tryd.func71, Tryd.ntmps71
  go_upto_region 6 with fail
  rw [← hV0]
  clear hV0 s0 d1 d2 d3 t1 t2 t3 t4 t5
  have HJ1 := Lib.hid (show EdJ a b An cn (some ⟨g2, o2, none⟩) ce Bn dn Be de w u (.slice rA ps.length rc) (.slice nA l.length nc) (.slice iA es.length ic) l es ⟨ty, fr, tt⟩ (.slice rA ps.length rc) ((ps ++ (List.range 0).flatMap St).take 2001) V0 from HJ0.out)
  clear HJ0
  obtain ⟨F, hF⟩ : ∃ F : Nat, fr = (F : Int) := ⟨fr.toNat, by have := HVA.out; omega⟩
  obtain ⟨T, hTT⟩ : ∃ T : Nat, tt = (T : Int) := ⟨tt.toNat, by have := HVA.out; omega⟩
  subst hF hTT
  have HFT : Hid (F < l.length ∧ T < l.length) := Lib.hid (by have := HVA.out; have := HLL.out; omega)
  rw [Int.toNat_natCast, Int.toNat_natCast] at HW
  go_wp2_with fail
  go_loopw [4, 12] (fun v x wr => ∃ k : Nat, k ≤ b.es.length ∧ x = .int .i64 (k : Int) ∧ EdJ a b An cn (some ⟨g2, o2, none⟩) ce Bn dn Be de w u (.slice rA ps.length rc) (.slice nA l.length nc) (.slice iA es.length ic) l es ⟨ty, (F : Int), (T : Int)⟩ v ((ps ++ (List.range k).flatMap St).take 2001) wr) (fun _ x _ => b.es.length - (intOf x).toNat)
  case atStart => exact ⟨0, Nat.zero_le _, rfl, HJ1.out⟩
  case round =>
    obtain ⟨k, hk, rfl, hJ⟩ := hrel
    have HJ := Lib.hid hJ
    have hj1 := hJ.b2
    have c1 := cell_of_row _ _ 1 _ _ _ hJ.b2
    simp only [List.getElem?_toArray, List.getElem?_cons_zero, List.getElem?_cons_succ] at c1
    clear hj1 hJ HJ1
    by_cases hkl : k < b.es.length
    case neg =>
      have hke : k = b.es.length := by omega
      clear hkl
      subst hke
      go_wp2_with fail
      go_ret
      exact ⟨_, rfl, HJ.out.row, HJ.out.gr, HJ.out.ow⟩
    obtain ⟨g3, o3, rfl, hg3, hc3⟩ := Eds.cells (HU.out.es.below HJ.out.be) hkl
    obtain ⟨e1, e2, e3⟩ := hc3 k hkl
    obtain ⟨x0, x1, x2⟩ := cell3E HJ.out.b3
    have hrn := OwnE.reads HJ.out.rn
    obtain ⟨A0, k0, en, hrn⟩ := hrn
    injection en with en _ en2
    subst en en2
    obtain ⟨g4, o4, rfl, hg4, hc4⟩ := Ints.cells hrn HFT.out.1
    have m1 := hc4 F HFT.out.1
    have m3 := hc4 T HFT.out.2
    have j0 : (0 : Int) ≤ (k : Int) := by omega
    have j1 : (k : Int) < (b.es.length : Int) := by omega
    have j2 : ((k : Int)).toNat = k := by omega
    have f0 : (0 : Int) ≤ (F : Int) := by omega
    have f1 : (F : Int) < (l.length : Int) := by have := HFT.out; omega
    have f2 : ((F : Int)).toNat = F := by omega
    have T0 : (0 : Int) ≤ (T : Int) := by omega
    have T1 : (T : Int) < (l.length : Int) := by have := HFT.out; omega
    have T2 : ((T : Int)).toNat = T := by omega
    have HM4 : Hid (b.es.length - ((k : Int) + 1).toNat < b.es.length - ((k : Int)).toNat) := Lib.hid (by omega)
    have HKL := Lib.hid hkl
    have HKY := Lib.hid (HY.out k)
    have HKZ := Lib.hid (HZ.out k)
    have HKS := Lib.hid (HSUC.out k)
    clear hc3 hc4 hkl hg3 hg4 hrn
    generalize l.getD F 0 = lf at *
    generalize l.getD T 0 = lt at *
    generalize b.es.getD k default = xb at *
    obtain ⟨ty2, fr2, tt2⟩ := xb
    dsimp only at *
    have HSD : Hid ((fun u0 : World => u0.cell? ⟨u.heap.size + 1, 1, none⟩ = some (.slice (some ⟨g3, o3, none⟩) b.es.length de) ∧ u0.cell? ⟨g3, o3 + k * 3, none⟩ = some (.int .i64 ty2) ∧ u0.cell? ⟨g3, o3 + k * 3 + 1, none⟩ = some (.int .i64 fr2) ∧ u0.cell? ⟨g3, o3 + k * 3 + 2, none⟩ = some (.int .i64 tt2) ∧ u0.cell? ⟨u.heap.size + 1 + 1, 0, none⟩ = some (.int .i64 ty) ∧ u0.cell? ⟨u.heap.size + 1 + 1, 1, none⟩ = some (.int .i64 (F : Int)) ∧ u0.cell? ⟨u.heap.size + 1 + 1, 2, none⟩ = some (.int .i64 (T : Int)) ∧ u0.cell? ⟨g4, o4 + F, none⟩ = some (.int .i64 lf) ∧ u0.cell? ⟨g4, o4 + T, none⟩ = some (.int .i64 lt)) wr.drew) := Lib.hid ⟨cell_up (below_d _) c1, cell_up (below_d _) e1, cell_up (below_d _) e2, cell_up (below_d _) e3, cell_up (below_d _) x0, cell_up (below_d _) x1, cell_up (below_d _) x2, cell_up (below_d _) m1, cell_up (below_d _) m3⟩
    have HJD := Lib.hid (HJ.out.up (below_d wr))
    go_wp2_with fail
    clear c1 e1 e2 e3 x0 x1 x2 m1 m3 HJ
    refine wp_region_noPanic ?_
    refine wp_region_held_drew (S := (fun u0 : World => u0.cell? ⟨u.heap.size + 1, 1, none⟩ = some (.slice (some ⟨g3, o3, none⟩) b.es.length de) ∧ u0.cell? ⟨g3, o3 + k * 3, none⟩ = some (.int .i64 ty2) ∧ u0.cell? ⟨g3, o3 + k * 3 + 1, none⟩ = some (.int .i64 fr2) ∧ u0.cell? ⟨g3, o3 + k * 3 + 2, none⟩ = some (.int .i64 tt2) ∧ u0.cell? ⟨u.heap.size + 1 + 1, 0, none⟩ = some (.int .i64 ty) ∧ u0.cell? ⟨u.heap.size + 1 + 1, 1, none⟩ = some (.int .i64 (F : Int)) ∧ u0.cell? ⟨u.heap.size + 1 + 1, 2, none⟩ = some (.int .i64 (T : Int)) ∧ u0.cell? ⟨g4, o4 + F, none⟩ = some (.int .i64 lf) ∧ u0.cell? ⟨g4, o4 + T, none⟩ = some (.int .i64 lt))) (by kernel_rfl) (HSD.out) (fun hHeld => ?_)
    refine wpAnyH_take (i := 0) (v := ?_) (oper_at (r := _) rfl) (by kernel_rfl) (by kernel_rfl) (by kernel_rfl) (fun _ _ _ h => h) (Or.inl ⟨by rfl, ?_⟩) (by assumption) ?_
    rotate_left
    · intro w hSw; try dsimp only at hSw
      go_simp
      try with_reducible rfl
    try simp only [Act.put, List.setIfInBounds_toArray, List.set_cons_zero, List.set_cons_succ]
    refine wpAnyH_take (i := 1) (v := ?_) (oper_at (r := _) rfl) (by kernel_rfl) (by kernel_rfl) (by kernel_rfl) (fun _ _ _ h => h) (Or.inl ⟨by rfl, ?_⟩) (by assumption) ?_
    rotate_left
    · intro w hSw; try dsimp only at hSw
      go_simp
      try with_reducible rfl
    try simp only [Act.put, List.setIfInBounds_toArray, List.set_cons_zero, List.set_cons_succ]
    refine wpAnyH_take (i := 2) (v := ?_) (oper_at (r := _) rfl) (by kernel_rfl) (by kernel_rfl) (by kernel_rfl) (fun _ _ _ h => h) (Or.inl ⟨by rfl, ?_⟩) (by assumption) ?_
    rotate_left
    · intro w hSw; try dsimp only at hSw
      go_simp
      try with_reducible rfl
    try simp only [Act.put, List.setIfInBounds_toArray, List.set_cons_zero, List.set_cons_succ]
    refine wpAnyH_take (i := 3) (v := ?_) (oper_at (r := _) rfl) (by kernel_rfl) (by kernel_rfl) (by kernel_rfl) (fun _ _ _ h => h) (Or.inl ⟨by rfl, ?_⟩) (by assumption) ?_
    rotate_left
    · intro w hSw; try dsimp only at hSw
      go_simp
      try with_reducible rfl
    try simp only [Act.put, List.setIfInBounds_toArray, List.set_cons_zero, List.set_cons_succ]
    refine wpAnyH_take (i := 4) (v := ?_) (oper_at (r := _) rfl) (by kernel_rfl) (by kernel_rfl) (by kernel_rfl) (fun _ _ _ h => h) (Or.inl ⟨by rfl, ?_⟩) (by assumption) ?_
    rotate_left
    · intro w hSw; try dsimp only at hSw
      go_simp
      try with_reducible rfl
    try simp only [Act.put, List.setIfInBounds_toArray, List.set_cons_zero, List.set_cons_succ]
    refine wpAnyH_take (i := 5) (v := ?_) (oper_at (r := _) rfl) (by kernel_rfl) (by kernel_rfl) (by kernel_rfl) (fun _ _ _ h => h) (Or.inl ⟨by rfl, ?_⟩) (by assumption) ?_
    rotate_left
    · intro w hSw; try dsimp only at hSw
      go_simp
      try with_reducible rfl
    try simp only [Act.put, List.setIfInBounds_toArray, List.set_cons_zero, List.set_cons_succ]
    refine wpAnyH_take (i := 6) (v := ?_) (oper_at (r := _) rfl) (by kernel_rfl) (by kernel_rfl) (by kernel_rfl) (fun _ _ _ h => h) (Or.inl ⟨by rfl, ?_⟩) (by assumption) ?_
    rotate_left
    · intro w hSw; try dsimp only at hSw
      go_simp
      try with_reducible rfl
    try simp only [Act.put, List.setIfInBounds_toArray, List.set_cons_zero, List.set_cons_succ]
    refine wpAnyH_take (i := 7) (v := ?_) (oper_at (r := _) rfl) (by kernel_rfl) (by kernel_rfl) (by kernel_rfl) (fun _ _ _ h => h) (Or.inl ⟨by rfl, ?_⟩) (by assumption) ?_
    rotate_left
    · intro w hSw; try dsimp only at hSw
      go_simp
      try with_reducible rfl
    try simp only [Act.put, List.setIfInBounds_toArray, List.set_cons_zero, List.set_cons_succ]
    refine wpAnyH_take (i := 8) (v := ?_) (oper_at (r := _) rfl) (by kernel_rfl) (by kernel_rfl) (by kernel_rfl) (fun _ _ _ h => h) (Or.inl ⟨by rfl, ?_⟩) (by assumption) ?_
    rotate_left
    · intro w hSw; try dsimp only at hSw
      go_simp
      try with_reducible rfl
    try simp only [Act.put, List.setIfInBounds_toArray, List.set_cons_zero, List.set_cons_succ]
    refine wpAnyH_take (i := 9) (v := ?_) (oper_at (r := _) rfl) (by kernel_rfl) (by kernel_rfl) (by kernel_rfl) (fun _ _ _ h => h) (Or.inl ⟨by rfl, ?_⟩) (by assumption) ?_
    rotate_left
    · intro w hSw; try dsimp only at hSw
      go_simp
      try with_reducible rfl
    try simp only [Act.put, List.setIfInBounds_toArray, List.set_cons_zero, List.set_cons_succ]
    refine wpAnyH_take (i := 10) (v := ?_) (oper_at (r := _) rfl) (by kernel_rfl) (by kernel_rfl) (by kernel_rfl) (fun _ _ _ h => h) (Or.inl ⟨by rfl, ?_⟩) (by assumption) ?_
    rotate_left
    · intro w hSw; try dsimp only at hSw
      go_simp
      try with_reducible rfl
    try simp only [Act.put, List.setIfInBounds_toArray, List.set_cons_zero, List.set_cons_succ]
    refine wpAnyH_take (i := 11) (v := ?_) (oper_at (r := _) rfl) (by kernel_rfl) (by kernel_rfl) (by kernel_rfl) (fun _ _ _ h => h) (Or.inl ⟨by rfl, ?_⟩) (by assumption) ?_
    rotate_left
    · intro w hSw; try dsimp only at hSw
      go_simp
      try with_reducible rfl
    try simp only [Act.put, List.setIfInBounds_toArray, List.set_cons_zero, List.set_cons_succ]
    refine wpAnyH_take (i := 12) (v := ?_) (oper_at (r := _) rfl) (by kernel_rfl) (by kernel_rfl) (by kernel_rfl) (fun _ _ _ h => h) (Or.inl ⟨by rfl, ?_⟩) (by assumption) ?_
    rotate_left
    · intro w hSw; try dsimp only at hSw
      go_simp
      try with_reducible rfl
    try simp only [Act.put, List.setIfInBounds_toArray, List.set_cons_zero, List.set_cons_succ]
    refine wpAnyH_take (i := 13) (v := ?_) (oper_at (r := _) rfl) (by kernel_rfl) (by kernel_rfl) (by kernel_rfl) (fun _ _ _ h => h) (Or.inl ⟨by rfl, ?_⟩) (by assumption) ?_
    rotate_left
    · intro w hSw; try dsimp only at hSw
      go_simp
      try with_reducible rfl
    try simp only [Act.put, List.setIfInBounds_toArray, List.set_cons_zero, List.set_cons_succ]
    refine wpAnyH_take (i := 14) (v := ?_) (oper_at (r := _) rfl) (by kernel_rfl) (by kernel_rfl) (by kernel_rfl) (fun _ _ _ h => h) (Or.inl ⟨by rfl, ?_⟩) (by assumption) ?_
    rotate_left
    · intro w hSw; try dsimp only at hSw
      go_simp
      try with_reducible rfl
    try simp only [Act.put, List.setIfInBounds_toArray, List.set_cons_zero, List.set_cons_succ]
    refine wpAnyH_take (i := 15) (v := ?_) (oper_at (r := _) rfl) (by kernel_rfl) (by kernel_rfl) (by kernel_rfl) (fun _ _ _ h => h) (Or.inl ⟨by rfl, ?_⟩) (by assumption) ?_
    rotate_left
    · intro w hSw; try dsimp only at hSw
      go_simp
      try with_reducible rfl
    try simp only [Act.put, List.setIfInBounds_toArray, List.set_cons_zero, List.set_cons_succ]
    refine wpAnyH_take (i := 16) (v := ?_) (oper_at (r := _) rfl) (by kernel_rfl) (by kernel_rfl) (by kernel_rfl) (fun _ _ _ h => h) (Or.inl ⟨by rfl, ?_⟩) (by assumption) ?_
    rotate_left
    · intro w hSw; try dsimp only at hSw
      go_simp
      try with_reducible rfl
    try simp only [Act.put, List.setIfInBounds_toArray, List.set_cons_zero, List.set_cons_succ]
    refine wpAnyH_take (i := 17) (v := ?_) (oper_at (r := _) rfl) (by kernel_rfl) (by kernel_rfl) (by kernel_rfl) (fun _ _ _ h => h) (Or.inl ⟨by rfl, ?_⟩) (by assumption) ?_
    rotate_left
    · intro w hSw; try dsimp only at hSw
      go_simp
      try with_reducible rfl
    try simp only [Act.put, List.setIfInBounds_toArray, List.set_cons_zero, List.set_cons_succ]
    by_cases he : (⟨ty2, fr2, tt2⟩ : Ed) = wt
    case neg =>
      have he2 : ¬ (⟨ty2, fr2, tt2⟩ : Ed) = ⟨ty, lf, lt⟩ := by rw [← HW.out]; exact he
      have HNS : Hid (((ps ++ (List.range (k + 1)).flatMap St).take 2001) = ((ps ++ (List.range k).flatMap St).take 2001)) := Lib.hid (by rw [← HKS.out, HKZ.out he, List.append_nil, List.take_take, Nat.min_self])
      clear he
      refine wpAnyH_take (i := 18) (v := (.bool false)) (oper_at (r := _) rfl) (by kernel_rfl) (by kernel_rfl) (by kernel_rfl) (fun _ _ _ h => h) (Or.inl ⟨by rfl, (by intro w hSw; go_simp; by_cases h1 : ty2 = ty <;> by_cases h2 : fr2 = lf <;> by_cases h3 : tt2 = lt <;> simp [h1, h2, h3] at he2 ⊢)⟩) (by assumption) ?_
      try simp only [Act.put, List.setIfInBounds_toArray, List.set_cons_zero, List.set_cons_succ]
      refine wpAnyH_done (by kernel_rfl) ?_ _
      refine NoPanic.normal ?_
      clear he2
      go_wp2_with fail
      go_roundw
      case rel => exact ⟨k + 1, HKL.out, by go_num, by rw [HNS.out]; exact HJD.out⟩
      case measure => exact HM4.out
    have he2 : (⟨ty2, fr2, tt2⟩ : Ed) = ⟨ty, lf, lt⟩ := by rw [← HW.out]; exact he
    obtain ⟨rfl, rfl, rfl⟩ := Ed.mk.inj he2
    refine wpAnyH_take (i := 18) (v := ?_) (oper_at (r := _) rfl) (by kernel_rfl) (by kernel_rfl) (by kernel_rfl) (fun _ _ _ h => h) (Or.inl ⟨by rfl, ?_⟩) (by assumption) ?_
    rotate_left
    · intro w hSw; try dsimp only at hSw
      go_simp
      try with_reducible rfl
    try simp only [Act.put, List.setIfInBounds_toArray, List.set_cons_zero, List.set_cons_succ]
    refine wpAnyH_done (by kernel_rfl) ?_ _
    refine NoPanic.normal ?_
    have HNS : Hid (((ps ++ (List.range (k + 1)).flatMap St).take 2001) = ((((ps ++ (List.range k).flatMap St).take 2001) ++ edR a b l d (es ++ [(k : Int)])).take 2001)) := Lib.hid (by rw [← HKS.out, HKY.out he])
    clear he he2
    go_upto_region 10 with fail
    generalize wr.drew = wq at *
    have HJE := Lib.hid (HJD.out.up (below_d wq))
    obtain ⟨p1, p2⟩ := cell2 HJE.out.b1
    obtain ⟨p3, p4⟩ := cell2 HJE.out.b2
    have HM : Hid (∀ W, Below wq.drew.heap.size wq.drew W → (fun u0 : World => u0.cell? ⟨u.heap.size, 0, none⟩ = some (.slice An a.ns.length cn) ∧ u0.cell? ⟨u.heap.size, 1, none⟩ = some (.slice (some ⟨g2, o2, none⟩) a.es.length ce) ∧ u0.cell? ⟨u.heap.size + 1, 0, none⟩ = some (.slice Bn b.ns.length dn) ∧ u0.cell? ⟨u.heap.size + 1, 1, none⟩ = some (.slice (some ⟨g3, o3, none⟩) b.es.length de)) W) := Lib.hid fun W hb => ⟨cell_up hb p1, cell_up hb p2, cell_up hb p3, cell_up hb p4⟩
    have BW := Lib.hid (Below.refl wq.drew.heap.size wq.drew)
    clear p1 p2 p3 p4 HJD
    go_wp2_with fail
    refine wp_region_noPanic ?_
    refine wp_region_held_drew (S := (fun u0 : World => u0.cell? ⟨u.heap.size, 0, none⟩ = some (.slice An a.ns.length cn) ∧ u0.cell? ⟨u.heap.size, 1, none⟩ = some (.slice (some ⟨g2, o2, none⟩) a.es.length ce) ∧ u0.cell? ⟨u.heap.size + 1, 0, none⟩ = some (.slice Bn b.ns.length dn) ∧ u0.cell? ⟨u.heap.size + 1, 1, none⟩ = some (.slice (some ⟨g3, o3, none⟩) b.es.length de))) (by kernel_rfl) (HM.out _ BW.out) (fun hHeld => ?_)
    generalize wq.drew = wd at *
    refine wpAnyH_take (i := 0) (v := ?_) (oper_at (r := _) rfl) (by kernel_rfl) (by kernel_rfl) (by kernel_rfl) (fun _ _ _ h => h) (Or.inl ⟨by rfl, ?_⟩) (by assumption) ?_
    rotate_left
    · intro w hSw; try dsimp only at hSw
      go_simp
      try with_reducible rfl
    try simp only [Act.put, List.setIfInBounds_toArray, List.set_cons_zero, List.set_cons_succ]
    refine wpAnyH_take (i := 1) (v := ?_) (oper_at (r := _) rfl) (by kernel_rfl) (by kernel_rfl) (by kernel_rfl) (fun _ _ _ h => h) (Or.inl ⟨by rfl, ?_⟩) (by assumption) ?_
    rotate_left
    · intro w hSw; try dsimp only at hSw
      go_simp
      try with_reducible rfl
    try simp only [Act.put, List.setIfInBounds_toArray, List.set_cons_zero, List.set_cons_succ]
    refine wpAnyH_take (i := 2) (v := ?_) (oper_at (r := _) rfl) (by kernel_rfl) (by kernel_rfl) (by kernel_rfl) (fun _ _ _ h => h) (Or.inl ⟨by rfl, ?_⟩) (by assumption) ?_
    rotate_left
    · intro w hSw; try dsimp only at hSw
      go_simp
      try with_reducible rfl
    try simp only [Act.put, List.setIfInBounds_toArray, List.set_cons_zero, List.set_cons_succ]
    refine wpAnyH_take (i := 4) (v := ?_) (oper_at (r := _) rfl) (by kernel_rfl) (by kernel_rfl) (by kernel_rfl) (fun _ _ _ h => h) (Or.inl ⟨by rfl, ?_⟩) (by assumption) ?_
    rotate_left
    · intro w hSw; try dsimp only at hSw
      go_simp
      try with_reducible rfl
    try simp only [Act.put, List.setIfInBounds_toArray, List.set_cons_zero, List.set_cons_succ]
    refine wpAnyH_take (i := 6) (v := ?_) (oper_at (r := _) rfl) (by kernel_rfl) (by kernel_rfl) (by kernel_rfl) (fun _ _ _ h => h) (Or.inl ⟨by rfl, ?_⟩) (by assumption) ?_
    rotate_left
    · intro w hSw; try dsimp only at hSw
      go_simp
      try with_reducible rfl
    try simp only [Act.put, List.setIfInBounds_toArray, List.set_cons_zero, List.set_cons_succ]
    refine wpAnyH_take (i := 9) (v := ?_) (oper_at (r := _) rfl) (by kernel_rfl) (by kernel_rfl) (by kernel_rfl) (fun _ _ _ h => h) (Or.inl ⟨by rfl, ?_⟩) (by assumption) ?_
    rotate_left
    · intro w hSw; try dsimp only at hSw
      go_simp
      try with_reducible rfl
    try simp only [Act.put, List.setIfInBounds_toArray, List.set_cons_zero, List.set_cons_succ]

    refine wpAnyH_ready (rs := [3, 7]) (by kernel_rfl) (by simp) ?_
    refine (AllReadyH.cons (oper_at (r := _) rfl) (fun K hK => ?_) (AllReadyH.cons (oper_at (r := _) rfl) (fun K hK => ?_) AllReadyH.nil))
    · skip
      obtain ⟨g3b, hg⟩ : ∃ g, g = wd.heap.size := ⟨_, rfl⟩
      have lg3b : wd.heap.size ≤ g3b := by rw [hg]; exact BW.out.size
      have hx : (wd.alloc (.cells #[] 3)).heap[g3b]? = some (.cells #[] 3 (0, 0)) := by rw [hg]; exact heap_alloc_new _ _
      have hb : Below wd.heap.size wd (wd.alloc (.cells #[] 3)) := (Below.refl _ _).alloc (Nat.le_refl _) _
      have BW_U1 := Lib.hid (BW.out.trans (hb.mono BW.out.size))
      have L3_U1 := Lib.hid hx
      clear hx hb
      go_simp
      refine hK.out _ _ (HM.out _ BW_U1.out) (fun _ => ?_)
      clear hK K
      try simp only [Act.put, List.setIfInBounds_toArray, List.set_cons_zero, List.set_cons_succ]
      generalize wd.alloc (.cells #[] 3) = U1 at *
      try rw [← hg]
      clear hg
      refine wpAnyH_ready (rs := [5, 7]) (by kernel_rfl) (by simp) ?_
      refine (AllReadyH.cons (oper_at (r := _) rfl) (fun K hK => ?_) (AllReadyH.cons (oper_at (r := _) rfl) (fun K hK => ?_) AllReadyH.nil))
      · skip
        obtain ⟨A0, k0, en, hri⟩ := OwnE.reads (OwnE.below HJE.out.ri BW_U1.out (Nat.le_refl _))
        injection en with en _ en2
        subst en en2
        refine step_append_many (E := EInt) (by rfl) _ _ 22 3 (by rfl) Tryd.underlying22 infoInt rfl (by decide) (by decide) wd.heap.size (.slice (some ⟨g3b, 0, none⟩) 0 0) [] (by rfl) (OwnE.empty L3_U1.out lg3b) iA es.length ic U1.heap.size es (by rfl) rfl hri (by simp) (by have := HLL.out; omega) BW_U1.out.size ?_
        intro v5 U2 ho hgr hb _
        clear hri
        have BW_U2 := Lib.hid (BW_U1.out.trans hb)
        have R5_U2 := Lib.hid (ho.cast (List.nil_append es))
        obtain ⟨a5, c5, rfl⟩ := OwnE.slice R5_U2.out
        clear ho hgr hb
        refine hK.out _ _ (HM.out _ BW_U2.out) (fun _ => ?_)
        clear hK K
        try simp only [Act.put, List.setIfInBounds_toArray, List.set_cons_zero, List.set_cons_succ]
        refine wpAnyH_ready (rs := [7]) (by kernel_rfl) (by simp) ?_
        refine (AllReadyH.cons (oper_at (r := _) rfl) (fun K hK => ?_) AllReadyH.nil)
        obtain ⟨g7b, hg⟩ : ∃ g, g = U2.heap.size := ⟨_, rfl⟩
        have lg7b : wd.heap.size ≤ g7b := by rw [hg]; exact BW_U2.out.size
        have hx : (U2.alloc (.cells #[.int .i64 (k : Int)] 3)).heap[g7b]? = some (.cells #[.int .i64 (k : Int)] 3 (0, 0)) := by rw [hg]; exact heap_alloc_new _ _
        have hb : Below U2.heap.size U2 (U2.alloc (.cells #[.int .i64 (k : Int)] 3)) := (Below.refl _ _).alloc (Nat.le_refl _) _
        have R5_U3 := Lib.hid (OwnE.below R5_U2.out hb (Nat.le_refl _))
        have BW_U3 := Lib.hid (BW_U2.out.trans (hb.mono BW_U2.out.size))
        have L7_U3 := Lib.hid hx
        clear hx hb
        go_simp
        refine hK.out _ _ (HM.out _ BW_U3.out) (fun _ => ?_)
        clear hK K
        try simp only [Act.put, List.setIfInBounds_toArray, List.set_cons_zero, List.set_cons_succ]
        generalize U2.alloc (.cells #[.int .i64 (k : Int)] 3) = U3 at *
        try rw [← hg]
        clear hg
        refine wpAnyH_ready (rs := [8]) (by kernel_rfl) (by simp) ?_
        refine (AllReadyH.cons (oper_at (r := _) rfl) (fun K hK => ?_) AllReadyH.nil)
        refine step_append_E (E := EInt) (by rfl) _ _ 22 3 (by rfl) Tryd.underlying22 infoInt rfl (by decide) (by decide) wd.heap.size (.slice a5 es.length c5) es (by rfl) R5_U3.out ⟨g7b, 0, none⟩ 1 (k : Int) (by rfl) (one_cells L7_U3.out) (by have := HLL.out; omega) BW_U3.out.size ?_
        intro v8 U4 ho hgr hb
        have BW_U4 := Lib.hid (BW_U3.out.trans hb)
        have R8 := Lib.hid (OwnE.mono ho (Nat.le_trans HJE.out.be.size (Nat.le_refl _)))
        have HJF := Lib.hid (HJE.out.up BW_U4.out)
        clear ho hgr hb
        refine hK.out _ _ (HM.out _ BW_U4.out) (fun _ => ?_)
        clear hK K
        try simp only [Act.put, List.setIfInBounds_toArray, List.set_cons_zero, List.set_cons_succ]
        refine wpAnyH_ready (rs := [10]) (by kernel_rfl) (by simp) ?_
        refine (AllReadyH.cons (oper_at (r := _) rfl) (fun K hK => ?_) AllReadyH.nil)
        go_simp
        refine (HIH.out U4 _ _ _ l (es ++ [(k : Int)]) _ HJF.out.be HJF.out.rn R8.out HJF.out.row (take_len _ _) (by have := HLL.out; simp; omega) HLL.out.1).mono ?_
        rintro e w9 ⟨v9, rfl, hr9, hg9, ho9⟩
        have HJN := Lib.hid (HJF.out.next hr9 hg9 ho9)
        clear hr9 hg9 ho9
        go_wp2_with fail
        refine hK.out _ _ (⟨(cell2 HJN.out.b1).1, (cell2 HJN.out.b1).2, (cell2 HJN.out.b2).1, (cell2 HJN.out.b2).2⟩) (fun _ => ?_)
        clear hK K
        try simp only [Act.put, List.setIfInBounds_toArray, List.set_cons_zero, List.set_cons_succ]
        refine wpAnyH_take (i := 11) (v := ?_) (oper_at (r := _) rfl) (by kernel_rfl) (by kernel_rfl) (by kernel_rfl) (fun _ _ _ h => h) (Or.inl ⟨by rfl, ?_⟩) (by assumption) ?_
        rotate_left
        · intro w hSw; try dsimp only at hSw
          go_simp
          try with_reducible rfl
        try simp only [Act.put, List.setIfInBounds_toArray, List.set_cons_zero, List.set_cons_succ]
        refine wpAnyH_done (by kernel_rfl) ?_ _
        refine NoPanic.normal ?_
        go_wp2_with fail
        go_roundw
        case rel => exact ⟨k + 1, HKL.out, by go_num, by rw [HNS.out]; exact HJN.out⟩
        case measure => exact HM4.out
      · skip
        obtain ⟨g7b, hg⟩ : ∃ g, g = U1.heap.size := ⟨_, rfl⟩
        have lg7b : wd.heap.size ≤ g7b := by rw [hg]; exact BW_U1.out.size
        have hx : (U1.alloc (.cells #[.int .i64 (k : Int)] 3)).heap[g7b]? = some (.cells #[.int .i64 (k : Int)] 3 (0, 0)) := by rw [hg]; exact heap_alloc_new _ _
        have hb : Below U1.heap.size U1 (U1.alloc (.cells #[.int .i64 (k : Int)] 3)) := (Below.refl _ _).alloc (Nat.le_refl _) _
        have nL3L7 : g3b ≠ g7b := by have := heap_lt L3_U1.out; omega
        have L3_U5 := Lib.hid (heap_up hb L3_U1.out)
        have BW_U5 := Lib.hid (BW_U1.out.trans (hb.mono BW_U1.out.size))
        have L7_U5 := Lib.hid hx
        clear hx hb
        go_simp
        refine hK.out _ _ (HM.out _ BW_U5.out) (fun _ => ?_)
        clear hK K
        try simp only [Act.put, List.setIfInBounds_toArray, List.set_cons_zero, List.set_cons_succ]
        generalize U1.alloc (.cells #[.int .i64 (k : Int)] 3) = U5 at *
        try rw [← hg]
        clear hg
        refine wpAnyH_ready (rs := [5]) (by kernel_rfl) (by simp) ?_
        refine (AllReadyH.cons (oper_at (r := _) rfl) (fun K hK => ?_) AllReadyH.nil)
        obtain ⟨A0, k0, en, hri⟩ := OwnE.reads (OwnE.below HJE.out.ri BW_U5.out (Nat.le_refl _))
        injection en with en _ en2
        subst en en2
        refine step_append_many (E := EInt) (by rfl) _ _ 22 3 (by rfl) Tryd.underlying22 infoInt rfl (by decide) (by decide) wd.heap.size (.slice (some ⟨g3b, 0, none⟩) 0 0) [] (by rfl) (OwnE.empty L3_U5.out lg3b) iA es.length ic U5.heap.size es (by rfl) rfl hri (by simp) (by have := HLL.out; omega) BW_U5.out.size ?_
        intro v5 U6 ho hgr hb _
        clear hri
        have L7_U6 : Hid (U6.heap[g7b]? = _) := Lib.hid ((hgr.block g7b (heap_lt L7_U5.out) (fun e => by have e2 : g7b = g3b := Option.some.inj e; first | exact nL3L7 e2.symm | exact nL7L3 e2)).trans L7_U5.out)
        have BW_U6 := Lib.hid (BW_U5.out.trans hb)
        have R5_U6 := Lib.hid (ho.cast (List.nil_append es))
        obtain ⟨a5, c5, rfl⟩ := OwnE.slice R5_U6.out
        clear ho hgr hb
        refine hK.out _ _ (HM.out _ BW_U6.out) (fun _ => ?_)
        clear hK K
        try simp only [Act.put, List.setIfInBounds_toArray, List.set_cons_zero, List.set_cons_succ]
        refine wpAnyH_ready (rs := [8]) (by kernel_rfl) (by simp) ?_
        refine (AllReadyH.cons (oper_at (r := _) rfl) (fun K hK => ?_) AllReadyH.nil)
        refine step_append_E (E := EInt) (by rfl) _ _ 22 3 (by rfl) Tryd.underlying22 infoInt rfl (by decide) (by decide) wd.heap.size (.slice a5 es.length c5) es (by rfl) R5_U6.out ⟨g7b, 0, none⟩ 1 (k : Int) (by rfl) (one_cells L7_U6.out) (by have := HLL.out; omega) BW_U6.out.size ?_
        intro v8 U7 ho hgr hb
        have BW_U7 := Lib.hid (BW_U6.out.trans hb)
        have R8 := Lib.hid (OwnE.mono ho (Nat.le_trans HJE.out.be.size (Nat.le_refl _)))
        have HJF := Lib.hid (HJE.out.up BW_U7.out)
        clear ho hgr hb
        refine hK.out _ _ (HM.out _ BW_U7.out) (fun _ => ?_)
        clear hK K
        try simp only [Act.put, List.setIfInBounds_toArray, List.set_cons_zero, List.set_cons_succ]
        refine wpAnyH_ready (rs := [10]) (by kernel_rfl) (by simp) ?_
        refine (AllReadyH.cons (oper_at (r := _) rfl) (fun K hK => ?_) AllReadyH.nil)
        go_simp
        refine (HIH.out U7 _ _ _ l (es ++ [(k : Int)]) _ HJF.out.be HJF.out.rn R8.out HJF.out.row (take_len _ _) (by have := HLL.out; simp; omega) HLL.out.1).mono ?_
        rintro e w9 ⟨v9, rfl, hr9, hg9, ho9⟩
        have HJN := Lib.hid (HJF.out.next hr9 hg9 ho9)
        clear hr9 hg9 ho9
        go_wp2_with fail
        refine hK.out _ _ (⟨(cell2 HJN.out.b1).1, (cell2 HJN.out.b1).2, (cell2 HJN.out.b2).1, (cell2 HJN.out.b2).2⟩) (fun _ => ?_)
        clear hK K
        try simp only [Act.put, List.setIfInBounds_toArray, List.set_cons_zero, List.set_cons_succ]
        refine wpAnyH_take (i := 11) (v := ?_) (oper_at (r := _) rfl) (by kernel_rfl) (by kernel_rfl) (by kernel_rfl) (fun _ _ _ h => h) (Or.inl ⟨by rfl, ?_⟩) (by assumption) ?_
        rotate_left
        · intro w hSw; try dsimp only at hSw
          go_simp
          try with_reducible rfl
        try simp only [Act.put, List.setIfInBounds_toArray, List.set_cons_zero, List.set_cons_succ]
        refine wpAnyH_done (by kernel_rfl) ?_ _
        refine NoPanic.normal ?_
        go_wp2_with fail
        go_roundw
        case rel => exact ⟨k + 1, HKL.out, by go_num, by rw [HNS.out]; exact HJN.out⟩
        case measure => exact HM4.out
    · skip
      obtain ⟨g7b, hg⟩ : ∃ g, g = wd.heap.size := ⟨_, rfl⟩
      have lg7b : wd.heap.size ≤ g7b := by rw [hg]; exact BW.out.size
      have hx : (wd.alloc (.cells #[.int .i64 (k : Int)] 3)).heap[g7b]? = some (.cells #[.int .i64 (k : Int)] 3 (0, 0)) := by rw [hg]; exact heap_alloc_new _ _
      have hb : Below wd.heap.size wd (wd.alloc (.cells #[.int .i64 (k : Int)] 3)) := (Below.refl _ _).alloc (Nat.le_refl _) _
      have BW_U8 := Lib.hid (BW.out.trans (hb.mono BW.out.size))
      have L7_U8 := Lib.hid hx
      clear hx hb
      go_simp
      refine hK.out _ _ (HM.out _ BW_U8.out) (fun _ => ?_)
      clear hK K
      try simp only [Act.put, List.setIfInBounds_toArray, List.set_cons_zero, List.set_cons_succ]
      generalize wd.alloc (.cells #[.int .i64 (k : Int)] 3) = U8 at *
      try rw [← hg]
      clear hg
      refine wpAnyH_ready (rs := [3]) (by kernel_rfl) (by simp) ?_
      refine (AllReadyH.cons (oper_at (r := _) rfl) (fun K hK => ?_) AllReadyH.nil)
      obtain ⟨g3b, hg⟩ : ∃ g, g = U8.heap.size := ⟨_, rfl⟩
      have lg3b : wd.heap.size ≤ g3b := by rw [hg]; exact BW_U8.out.size
      have hx : (U8.alloc (.cells #[] 3)).heap[g3b]? = some (.cells #[] 3 (0, 0)) := by rw [hg]; exact heap_alloc_new _ _
      have hb : Below U8.heap.size U8 (U8.alloc (.cells #[] 3)) := (Below.refl _ _).alloc (Nat.le_refl _) _
      have nL7L3 : g7b ≠ g3b := by have := heap_lt L7_U8.out; omega
      have L7_U9 := Lib.hid (heap_up hb L7_U8.out)
      have BW_U9 := Lib.hid (BW_U8.out.trans (hb.mono BW_U8.out.size))
      have L3_U9 := Lib.hid hx
      clear hx hb
      go_simp
      refine hK.out _ _ (HM.out _ BW_U9.out) (fun _ => ?_)
      clear hK K
      try simp only [Act.put, List.setIfInBounds_toArray, List.set_cons_zero, List.set_cons_succ]
      generalize U8.alloc (.cells #[] 3) = U9 at *
      try rw [← hg]
      clear hg
      refine wpAnyH_ready (rs := [5]) (by kernel_rfl) (by simp) ?_
      refine (AllReadyH.cons (oper_at (r := _) rfl) (fun K hK => ?_) AllReadyH.nil)
      obtain ⟨A0, k0, en, hri⟩ := OwnE.reads (OwnE.below HJE.out.ri BW_U9.out (Nat.le_refl _))
      injection en with en _ en2
      subst en en2
      refine step_append_many (E := EInt) (by rfl) _ _ 22 3 (by rfl) Tryd.underlying22 infoInt rfl (by decide) (by decide) wd.heap.size (.slice (some ⟨g3b, 0, none⟩) 0 0) [] (by rfl) (OwnE.empty L3_U9.out lg3b) iA es.length ic U9.heap.size es (by rfl) rfl hri (by simp) (by have := HLL.out; omega) BW_U9.out.size ?_
      intro v5 U10 ho hgr hb _
      clear hri
      have L7_U10 : Hid (U10.heap[g7b]? = _) := Lib.hid ((hgr.block g7b (heap_lt L7_U9.out) (fun e => by have e2 : g7b = g3b := Option.some.inj e; first | exact nL3L7 e2.symm | exact nL7L3 e2)).trans L7_U9.out)
      have BW_U10 := Lib.hid (BW_U9.out.trans hb)
      have R5_U10 := Lib.hid (ho.cast (List.nil_append es))
      obtain ⟨a5, c5, rfl⟩ := OwnE.slice R5_U10.out
      clear ho hgr hb
      refine hK.out _ _ (HM.out _ BW_U10.out) (fun _ => ?_)
      clear hK K
      try simp only [Act.put, List.setIfInBounds_toArray, List.set_cons_zero, List.set_cons_succ]
      refine wpAnyH_ready (rs := [8]) (by kernel_rfl) (by simp) ?_
      refine (AllReadyH.cons (oper_at (r := _) rfl) (fun K hK => ?_) AllReadyH.nil)
      refine step_append_E (E := EInt) (by rfl) _ _ 22 3 (by rfl) Tryd.underlying22 infoInt rfl (by decide) (by decide) wd.heap.size (.slice a5 es.length c5) es (by rfl) R5_U10.out ⟨g7b, 0, none⟩ 1 (k : Int) (by rfl) (one_cells L7_U10.out) (by have := HLL.out; omega) BW_U10.out.size ?_
      intro v8 U11 ho hgr hb
      have BW_U11 := Lib.hid (BW_U10.out.trans hb)
      have R8 := Lib.hid (OwnE.mono ho (Nat.le_trans HJE.out.be.size (Nat.le_refl _)))
      have HJF := Lib.hid (HJE.out.up BW_U11.out)
      clear ho hgr hb
      refine hK.out _ _ (HM.out _ BW_U11.out) (fun _ => ?_)
      clear hK K
      try simp only [Act.put, List.setIfInBounds_toArray, List.set_cons_zero, List.set_cons_succ]
      refine wpAnyH_ready (rs := [10]) (by kernel_rfl) (by simp) ?_
      refine (AllReadyH.cons (oper_at (r := _) rfl) (fun K hK => ?_) AllReadyH.nil)
      go_simp
      refine (HIH.out U11 _ _ _ l (es ++ [(k : Int)]) _ HJF.out.be HJF.out.rn R8.out HJF.out.row (take_len _ _) (by have := HLL.out; simp; omega) HLL.out.1).mono ?_
      rintro e w9 ⟨v9, rfl, hr9, hg9, ho9⟩
      have HJN := Lib.hid (HJF.out.next hr9 hg9 ho9)
      clear hr9 hg9 ho9
      go_wp2_with fail
      refine hK.out _ _ (⟨(cell2 HJN.out.b1).1, (cell2 HJN.out.b1).2, (cell2 HJN.out.b2).1, (cell2 HJN.out.b2).2⟩) (fun _ => ?_)
      clear hK K
      try simp only [Act.put, List.setIfInBounds_toArray, List.set_cons_zero, List.set_cons_succ]
      refine wpAnyH_take (i := 11) (v := ?_) (oper_at (r := _) rfl) (by kernel_rfl) (by kernel_rfl) (by kernel_rfl) (fun _ _ _ h => h) (Or.inl ⟨by rfl, ?_⟩) (by assumption) ?_
      rotate_left
      · intro w hSw; try dsimp only at hSw
        go_simp
        try with_reducible rfl
      try simp only [Act.put, List.setIfInBounds_toArray, List.set_cons_zero, List.set_cons_succ]
      refine wpAnyH_done (by kernel_rfl) ?_ _
      refine NoPanic.normal ?_
      go_wp2_with fail
      go_roundw
      case rel => exact ⟨k + 1, HKL.out, by go_num, by rw [HNS.out]; exact HJN.out⟩
      case measure => exact HM4.out

end Go.Proofs.YtaeelanbkdkppaaDoor
