import Derived.Test.YtaeelanbkdkppaaDoorV08
import Derived.Test.YtaeelanbkdkppaaDoorV09
import Derived.Test.YtaeelanbkdkppaaDoorV05
import Derived.Test.YtaeelanbkdkppaaDoorV01
import Derived.Test.YtaeelanbkdkppaaDoorV06
/-
  The chapter's examples: awake.
-/
namespace Go.Proofs.YtaeelanbkdkppaaDoor
open Go.RowKit Go.Shelf

def exA : Gr := ⟨[0, 0], [⟨0, 0, 1⟩]⟩
def exB : Gr := ⟨[0], [⟨0, 0, 0⟩]⟩
def exM1 : Mo := ⟨[0, 0], [0]⟩
theorem ex_ab : allP exA exB = [exM1] := by decide +kernel
theorem ex_ba : allP exB exA = [] := by decide +kernel
theorem ex_aa : allP exA exA = [⟨[0, 1], [0]⟩] := by decide +kernel
theorem ex_va : validE exA = 0 := by decide +kernel
theorem ex_vb : validE exB = 0 := by decide +kernel
theorem ex_m : morE exA exB exM1 = 0 := by decide +kernel
theorem all_of {a b : Gr} {L : List Mo} (h1 : validE a = 0) (h2 : validE b = 0) (h : allP a b = L) (hl : L.length ≤ 2000) : allE a b = 0 ∧ allS a b = L := by
  have e : allR a b = L := by rw [← allP_eq h1 h2]; exact h
  have hc : chkE a b = 0 := by unfold chkE; rw [h1, h2]; rfl
  have he : allE a b = 0 := by unfold allE; rw [hc, e, if_neg (fun h => h rfl), if_neg (by omega)]
  exact ⟨he, by unfold allS; rw [he, if_pos rfl, e]⟩
theorem ex_inj : injB exA exB exM1 = false := Bool.eq_false_iff.2 fun h => by
  have := (injB_iff.1 h).2.1
  revert this
  decide
theorem ex_sur : surB exA exB exM1 = true := surB_iff.2 ⟨ex_m, fun k hk => by
  have e : exB.ns.length = 1 := rfl
  have : k = 0 := by omega
  subst this
  decide, fun k hk => by
  have e : exB.es.length = 1 := rfl
  have : k = 0 := by omega
  subst this
  decide⟩

/-- the two graphs, in memory -/
def AK (B : Nat) (w u : World) : Prop := u.heap[B + 1 + 1]? = some (.cells #[.slice (some ⟨B, 0, none⟩) 2 2, .slice (some ⟨B + 1, 0, none⟩) 1 1] 25 (0, 0)) ∧
  u.heap[B + 1 + 1 + 1 + 1 + 1]? = some (.cells #[.slice (some ⟨B + 1 + 1 + 1, 0, none⟩) 1 1, .slice (some ⟨B + 1 + 1 + 1 + 1, 0, none⟩) 1 1] 25 (0, 0)) ∧
  GrAt u (some ⟨B, 0, none⟩) 2 (some ⟨B + 1, 0, none⟩) 1 exA ∧ GrAt u (some ⟨B + 1 + 1 + 1, 0, none⟩) 1 (some ⟨B + 1 + 1 + 1 + 1, 0, none⟩) 1 exB ∧ Below w.heap.size w u ∧ B = w.heap.size
theorem AK.up {B : Nat} {w u u' : World} (h : AK B w u) (hb : Below u.heap.size u u') : AK B w u' :=
  ⟨heap_up hb h.1, heap_up hb h.2.1, h.2.2.1.up hb, h.2.2.2.1.up hb, h.2.2.2.2.1.trans (hb.mono h.2.2.2.2.1.size), h.2.2.2.2.2⟩

set_option maxRecDepth 100000 in
set_option maxHeartbeats 4000000 in
theorem awake_any (w : World) (h00 : 0 < w.heap.size) (hT : TabW w) : Calls Tryd.prog 10 #[] w fun e w' => e = .returned (.bool true) ∧ Below w.heap.size w w' := by
  have HT := Lib.hid (fun u (hb : Below w.heap.size w u) => hT.up (hb.block 0 h00))
  obtain ⟨eab, lab⟩ := all_of ex_va ex_vb ex_ab (by decide)
  obtain ⟨eba, lba⟩ := all_of ex_vb ex_va ex_ba (by decide)
  obtain ⟨eaa, laa⟩ := all_of ex_va ex_va ex_aa (by decide)
  have hp : ∀ u, Below w.heap.size w u → 0 < u.heap.size := fun u hb => Nat.lt_of_lt_of_le h00 hb.size
  have hab := fun (u : World) (hb : Below w.heap.size w u) An cn Ae ce Bn dn Be de h1 h2 => all_any exA exB An cn Ae ce Bn dn Be de u (hp u hb) (HT.out u hb) h1 h2
  have hba := fun (u : World) (hb : Below w.heap.size w u) An cn Ae ce Bn dn Be de h1 h2 => all_any exB exA An cn Ae ce Bn dn Be de u (hp u hb) (HT.out u hb) h1 h2
  have haa := fun (u : World) (hb : Below w.heap.size w u) An cn Ae ce Bn dn Be de h1 h2 => all_any exA exA An cn Ae ce Bn dn Be de u (hp u hb) (HT.out u hb) h1 h2
  rw [eab, lab] at hab
  rw [eba, lba] at hba
  rw [eaa, laa] at haa
  have HAB := Lib.hid hab
  have HBA := Lib.hid hba
  have HAA := Lib.hid haa
  clear hT hab hba haa hp eab lab eba lba eaa laa
  go_enter Tryd.func10, Tryd.ntmps10
  go_upto_region 3 with fail
  generalize hW : (((((w.alloc _).alloc _).alloc _).alloc _).alloc _).alloc _ = W0
  have hK : AK w.heap.size w W0 := by
    have h0 : W0.heap[w.heap.size]? = some (.cells #[.int .i64 0, .int .i64 0] 3 (0, 0)) := by rw [← hW]; simp only [at_alloc, size_alloc]; repeat (first | rfl | (split; · (first | rfl | omega)))
    have h1 : W0.heap[w.heap.size + 1]? = some (.cells #[.int .i64 0, .int .i64 0, .int .i64 1] 65 (0, 0)) := by rw [← hW]; simp only [at_alloc, size_alloc]; repeat (first | rfl | (split; · (first | rfl | omega)))
    have h2 : W0.heap[w.heap.size + 1 + 1 + 1]? = some (.cells #[.int .i64 0] 3 (0, 0)) := by rw [← hW]; simp only [at_alloc, size_alloc]; repeat (first | rfl | (split; · (first | rfl | omega)))
    have h3 : W0.heap[w.heap.size + 1 + 1 + 1 + 1]? = some (.cells #[.int .i64 0, .int .i64 0, .int .i64 0] 65 (0, 0)) := by rw [← hW]; simp only [at_alloc, size_alloc]; repeat (first | rfl | (split; · (first | rfl | omega)))
    refine ⟨?_, ?_, gr_lit rfl rfl h0 h1 rfl rfl (by decide) (by decide), gr_lit rfl rfl h2 h3 rfl rfl (by decide) (by decide), ?_, rfl⟩
    · rw [← hW]; simp only [at_alloc, size_alloc]; repeat (first | rfl | (split; · (first | rfl | omega)))
    · rw [← hW]; simp only [at_alloc, size_alloc]; repeat (first | rfl | (split; · (first | rfl | omega)))
    · rw [← hW]
      refine Below.alloc (Below.alloc (Below.alloc (Below.alloc (Below.alloc (Below.alloc (Below.refl _ _) ?_ _) ?_ _) ?_ _) ?_ _) ?_ _) ?_ _ <;> simp <;> omega
  clear hW
  have HK0 := Lib.hid hK
  obtain ⟨c0, c1⟩ := cell2 hK.1
  obtain ⟨c2, c3⟩ := cell2 hK.2.1
  clear hK
  go_upto_region 4 with (go_at_call 31; refine (HAB.out _ HK0.out.2.2.2.2.1 _ _ _ _ _ _ _ _ HK0.out.2.2.1 HK0.out.2.2.2.1).mono ?_; rintro e w1 ⟨⟨v1, rfl, hp1⟩, hb1⟩; have HP1 := Lib.hid hp1; obtain ⟨P1, d1, rfl, _⟩ := hp1)
  have HK1 := Lib.hid (HK0.out.up hb1)
  clear hb1 c0 c1 c2 c3 HK0 HAB
  obtain ⟨c0, c1⟩ := cell2 HK1.out.1
  obtain ⟨c2, c3⟩ := cell2 HK1.out.2.1
  go_upto_region 5 with (go_at_call 31; refine (HBA.out _ HK1.out.2.2.2.2.1 _ _ _ _ _ _ _ _ HK1.out.2.2.2.1 HK1.out.2.2.1).mono ?_; rintro e w2 ⟨⟨v2, rfl, hp2⟩, hb2⟩; have HP2 := Lib.hid (HP1.out.up hb2); obtain ⟨P2, d2, rfl, _⟩ := hp2)
  have HK2 := Lib.hid (HK1.out.up hb2)
  clear hb2 c0 c1 c2 c3 HK1 HBA HP1
  obtain ⟨c0, c1⟩ := cell2 HK2.out.1
  obtain ⟨c2, c3⟩ := cell2 HK2.out.2.1
  go_upto_region 6 with (go_at_call 31; refine (HAA.out _ HK2.out.2.2.2.2.1 _ _ _ _ _ _ _ _ HK2.out.2.2.1 HK2.out.2.2.1).mono ?_; rintro e w3 ⟨⟨v3, rfl, hp3⟩, hb3⟩; have HP3 := Lib.hid (HP2.out.up hb3); obtain ⟨P3, d3, rfl, _⟩ := hp3)
  have HK3 := Lib.hid (HK2.out.up hb3)
  clear hb3 c0 c1 c2 c3 HK2 HAA HP2
  obtain ⟨A9, d9, e9, hP⟩ := HP3.out
  injection e9 with e9 _ _
  subst e9
  obtain ⟨b, off, cs, rfl, hb, hr, hc⟩ := DReads.at hP (k := 0) (by decide)
  obtain ⟨M1, k1, M2, k2, rfl, r1, r2⟩ := hr
  have y0 := hc 0 _ rfl
  have y1 := hc 1 _ rfl
  simp only [show DPart.size = 2 from rfl, Nat.zero_mul, Nat.add_zero] at y0 y1
  change Ints w3 w3.heap.size M1 [0, 0] at r1
  change Ints w3 w3.heap.size M2 [0] at r2
  have HR1 := Lib.hid r1
  have HR2 := Lib.hid r2
  have HY0 := Lib.hid y0
  have HY1 := Lib.hid y1
  clear hc r1 r2 hP hb HP3
  go_upto_region 8 with fail
  clear y0 y1
  have hK := HK3.out
  obtain ⟨c0, c1⟩ := cell2 hK.1
  obtain ⟨c2, c3⟩ := cell2 hK.2.1
  have hM : ∀ W, Below w3.heap.size w3 W → (fun u : World => u.cell? ⟨b, off, none⟩ = some (.slice M1 2 k1) ∧ u.cell? ⟨b, off + 1, none⟩ = some (.slice M2 1 k2) ∧ u.cell? ⟨w.heap.size + 1 + 1, 0, none⟩ = some (.slice (some ⟨w.heap.size, 0, none⟩) 2 2) ∧ u.cell? ⟨w.heap.size + 1 + 1, 1, none⟩ = some (.slice (some ⟨w.heap.size + 1, 0, none⟩) 1 1) ∧ u.cell? ⟨w.heap.size + 1 + 1 + 1 + 1 + 1, 0, none⟩ = some (.slice (some ⟨w.heap.size + 1 + 1 + 1, 0, none⟩) 1 1) ∧ u.cell? ⟨w.heap.size + 1 + 1 + 1 + 1 + 1, 1, none⟩ = some (.slice (some ⟨w.heap.size + 1 + 1 + 1 + 1, 0, none⟩) 1 1)) W := fun W h => ⟨cell_up h HY0.out, cell_up h HY1.out, cell_up h c0, cell_up h c1, cell_up h c2, cell_up h c3⟩
  have HM := Lib.hid hM
  have HS1 := Lib.hid (hM _ (below_d w3))
  have Bwd := below_d w3
  clear c0 c1 c2 c3 hM hK
  go_wp2_with fail
  refine wp_region_noPanic ?_
  refine wp_region_held_drew (S := (fun u : World => u.cell? ⟨b, off, none⟩ = some (.slice M1 2 k1) ∧ u.cell? ⟨b, off + 1, none⟩ = some (.slice M2 1 k2) ∧ u.cell? ⟨w.heap.size + 1 + 1, 0, none⟩ = some (.slice (some ⟨w.heap.size, 0, none⟩) 2 2) ∧ u.cell? ⟨w.heap.size + 1 + 1, 1, none⟩ = some (.slice (some ⟨w.heap.size + 1, 0, none⟩) 1 1) ∧ u.cell? ⟨w.heap.size + 1 + 1 + 1 + 1 + 1, 0, none⟩ = some (.slice (some ⟨w.heap.size + 1 + 1 + 1, 0, none⟩) 1 1) ∧ u.cell? ⟨w.heap.size + 1 + 1 + 1 + 1 + 1, 1, none⟩ = some (.slice (some ⟨w.heap.size + 1 + 1 + 1 + 1, 0, none⟩) 1 1))) (by kernel_rfl) (HS1.out) (fun hHeld => ?_)
  generalize w3.drew = wd at *
  refine wpAnyH_take (i := 0) (v := ?_) (oper_at (r := _) rfl) (by kernel_rfl) (by kernel_rfl) (by kernel_rfl) (fun _ _ _ h => h) (Or.inl ⟨by rfl, ?_⟩) (by assumption) ?_
  rotate_left
  · intro w hSw; try dsimp only at hSw
    go_simp
    try with_reducible rfl
  try simp only [Act.put, List.setIfInBounds_toArray, List.set_cons_zero, List.set_cons_succ]
  refine wpAnyH_take (i := 1) (v := ?_) (oper_at (r := _) rfl) (by kernel_rfl) (by kernel_rfl) (by kernel_rfl) (fun _ _ _ h => h) (Or.inl ⟨by rfl, ?_⟩) (by assumption) ?_
  rotate_left
  · intro w hSw; try dsimp only at hSw
    go_simp
    try with_reducible rfl
  try simp only [Act.put, List.setIfInBounds_toArray, List.set_cons_zero, List.set_cons_succ]
  refine wpAnyH_take (i := 2) (v := ?_) (oper_at (r := _) rfl) (by kernel_rfl) (by kernel_rfl) (by kernel_rfl) (fun _ _ _ h => h) (Or.inl ⟨by rfl, ?_⟩) (by assumption) ?_
  rotate_left
  · intro w hSw; try dsimp only at hSw
    go_simp
    try with_reducible rfl
  try simp only [Act.put, List.setIfInBounds_toArray, List.set_cons_zero, List.set_cons_succ]
  refine wpAnyH_ready (rs := [3, 4]) (by kernel_rfl) (by simp) ?_
  refine (AllReadyH.cons (oper_at (r := _) rfl) (fun K hK => ?_) (AllReadyH.cons (oper_at (r := _) rfl) (fun K hK => ?_) AllReadyH.nil))
  · skip
    have Ba := Bwd.alloc Bwd.size (.cells #[.int .i64 0, .int .i64 0] 3)
    have Xa := heap_alloc_new wd (.cells #[.int .i64 0, .int .i64 0] 3)
    obtain ⟨ga, hga⟩ : ∃ g, g = wd.heap.size := ⟨_, rfl⟩
    rw [← hga] at Xa
    go_simp
    refine hK.out _ _ (HM.out _ Ba) (fun _ => ?_)
    clear hK K
    try simp only [Act.put, List.setIfInBounds_toArray, List.set_cons_zero, List.set_cons_succ]
    generalize wd.alloc (.cells #[.int .i64 0, .int .i64 0] 3) = Wa at *
    try rw [← hga]
    clear hga
    refine wpAnyH_ready (rs := [4]) (by kernel_rfl) (by simp) ?_
    refine AllReadyH.cons (oper_at (r := _) rfl) (fun K hK => ?_) AllReadyH.nil
    have Bb := Ba.alloc Ba.size (.cells #[.int .i64 0] 3)
    have Xb := heap_alloc_new Wa (.cells #[.int .i64 0] 3)
    have Xa2 := (Below.heap_alloc Wa (.cells #[.int .i64 0] 3) _ (heap_lt Xa)).trans Xa
    obtain ⟨gb, hgb⟩ : ∃ g, g = Wa.heap.size := ⟨_, rfl⟩
    rw [← hgb] at Xb
    go_simp
    refine hK.out _ _ (HM.out _ Bb) (fun _ => ?_)
    clear hK K
    try simp only [Act.put, List.setIfInBounds_toArray, List.set_cons_zero, List.set_cons_succ]
    generalize Wa.alloc (.cells #[.int .i64 0] 3) = Wb at *
    try rw [← hgb]
    clear hgb Xa Ba
    refine wpAnyH_take (i := 5) (v := ?_) (oper_at (r := _) rfl) (by kernel_rfl) (by kernel_rfl) (by kernel_rfl) (fun _ _ _ h => h) (Or.inl ⟨by rfl, ?_⟩) (by assumption) ?_
    rotate_left
    · intro w hSw; try dsimp only at hSw
      go_simp
      try with_reducible rfl
    try simp only [Act.put, List.setIfInBounds_toArray, List.set_cons_zero, List.set_cons_succ]
    have q1 : Ints Wb Wb.heap.size (some ⟨ga, 0, none⟩) [0, 0] := reads_lit Xa2 rfl (heap_lt Xa2)
    have q2 : Ints Wb Wb.heap.size (some ⟨gb, 0, none⟩) [0] := reads_lit Xb rfl (heap_lt Xb)
    have hSM := sameMo_any exM1 exM1 M1 k1 M2 k2 (some ⟨ga, 0, none⟩) 2 (some ⟨gb, 0, none⟩) 1 Wb (by decide) (by decide) (Reads.up HR1.out Bb) (Reads.up HR2.out Bb) q1 q2
    rw [decide_eq_true (p := exM1 = exM1) rfl] at hSM
    have HSM := Lib.hid hSM
    have HBB := Lib.hid Bb
    clear q1 q2 hSM Xa2 Xb Bb
    refine wpAnyH_ready (rs := [6]) (by kernel_rfl) (by simp) ?_
    refine AllReadyH.cons (oper_at (r := _) rfl) (fun K hK => ?_) AllReadyH.nil
    go_simp
    refine HSM.out.mono ?_
    rintro e w4 ⟨rfl, hb4⟩
    have HB4 := Lib.hid (HBB.out.trans (hb4.mono HBB.out.size))
    clear hb4
    go_wp2_with fail
    refine hK.out _ _ (HM.out _ HB4.out) (fun _ => ?_)
    clear hK K
    try simp only [Act.put, List.setIfInBounds_toArray, List.set_cons_zero, List.set_cons_succ]
    have hsu := surM_any exA exB exM1 _ _ _ _ _ _ _ _ M1 k1 M2 k2 w4 ((HK3.out.2.2.1).up HB4.out) ((HK3.out.2.2.2.1).up HB4.out) (Reads.up HR1.out HB4.out) (Reads.up HR2.out HB4.out) (by decide) (by decide)
    rw [ex_sur] at hsu
    have HSU := Lib.hid hsu
    clear hsu
    refine wpAnyH_take (i := 7) (v := ?_) (oper_at (r := _) rfl) (by kernel_rfl) (by kernel_rfl) (by kernel_rfl) (fun _ _ _ h => h) (Or.inl ⟨by rfl, ?_⟩) (by assumption) ?_
    rotate_left
    · intro w hSw; try dsimp only at hSw
      go_simp
      try with_reducible rfl
    try simp only [Act.put, List.setIfInBounds_toArray, List.set_cons_zero, List.set_cons_succ]
    refine wpAnyH_take (i := 8) (v := ?_) (oper_at (r := _) rfl) (by kernel_rfl) (by kernel_rfl) (by kernel_rfl) (fun _ _ _ h => h) (Or.inl ⟨by rfl, ?_⟩) (by assumption) ?_
    rotate_left
    · intro w hSw; try dsimp only at hSw
      go_simp
      try with_reducible rfl
    try simp only [Act.put, List.setIfInBounds_toArray, List.set_cons_zero, List.set_cons_succ]
    refine wpAnyH_take (i := 9) (v := ?_) (oper_at (r := _) rfl) (by kernel_rfl) (by kernel_rfl) (by kernel_rfl) (fun _ _ _ h => h) (Or.inl ⟨by rfl, ?_⟩) (by assumption) ?_
    rotate_left
    · intro w hSw; try dsimp only at hSw
      go_simp
      try with_reducible rfl
    try simp only [Act.put, List.setIfInBounds_toArray, List.set_cons_zero, List.set_cons_succ]
    refine wpAnyH_take (i := 10) (v := ?_) (oper_at (r := _) rfl) (by kernel_rfl) (by kernel_rfl) (by kernel_rfl) (fun _ _ _ h => h) (Or.inl ⟨by rfl, ?_⟩) (by assumption) ?_
    rotate_left
    · intro w hSw; try dsimp only at hSw
      go_simp
      try with_reducible rfl
    try simp only [Act.put, List.setIfInBounds_toArray, List.set_cons_zero, List.set_cons_succ]
    refine wpAnyH_take (i := 11) (v := ?_) (oper_at (r := _) rfl) (by kernel_rfl) (by kernel_rfl) (by kernel_rfl) (fun _ _ _ h => h) (Or.inl ⟨by rfl, ?_⟩) (by assumption) ?_
    rotate_left
    · intro w hSw; try dsimp only at hSw
      go_simp
      try with_reducible rfl
    try simp only [Act.put, List.setIfInBounds_toArray, List.set_cons_zero, List.set_cons_succ]
    refine wpAnyH_take (i := 12) (v := ?_) (oper_at (r := _) rfl) (by kernel_rfl) (by kernel_rfl) (by kernel_rfl) (fun _ _ _ h => h) (Or.inl ⟨by rfl, ?_⟩) (by assumption) ?_
    rotate_left
    · intro w hSw; try dsimp only at hSw
      go_simp
      try with_reducible rfl
    try simp only [Act.put, List.setIfInBounds_toArray, List.set_cons_zero, List.set_cons_succ]
    refine wpAnyH_ready (rs := [13]) (by kernel_rfl) (by simp) ?_
    refine AllReadyH.cons (oper_at (r := _) rfl) (fun K hK => ?_) AllReadyH.nil
    go_simp
    refine HSU.out.mono ?_
    rintro e w5 ⟨rfl, hb5⟩
    have HB5 := Lib.hid (HB4.out.trans (hb5.mono HB4.out.size))
    clear hb5
    go_wp2_with fail
    refine hK.out _ _ (HM.out _ HB5.out) (fun _ => ?_)
    clear hK K
    try simp only [Act.put, List.setIfInBounds_toArray, List.set_cons_zero, List.set_cons_succ]
    have hin := injM_any exA exB exM1 _ _ _ _ _ _ _ _ M1 k1 M2 k2 w5 ((HK3.out.2.2.1).up HB5.out) ((HK3.out.2.2.2.1).up HB5.out) (Reads.up HR1.out HB5.out) (Reads.up HR2.out HB5.out) (by decide) (by decide)
    rw [ex_inj] at hin
    have HIN := Lib.hid hin
    clear hin
    refine wpAnyH_take (i := 14) (v := ?_) (oper_at (r := _) rfl) (by kernel_rfl) (by kernel_rfl) (by kernel_rfl) (fun _ _ _ h => h) (Or.inl ⟨by rfl, ?_⟩) (by assumption) ?_
    rotate_left
    · intro w hSw; try dsimp only at hSw
      go_simp
      try with_reducible rfl
    try simp only [Act.put, List.setIfInBounds_toArray, List.set_cons_zero, List.set_cons_succ]
    refine wpAnyH_take (i := 15) (v := ?_) (oper_at (r := _) rfl) (by kernel_rfl) (by kernel_rfl) (by kernel_rfl) (fun _ _ _ h => h) (Or.inl ⟨by rfl, ?_⟩) (by assumption) ?_
    rotate_left
    · intro w hSw; try dsimp only at hSw
      go_simp
      try with_reducible rfl
    try simp only [Act.put, List.setIfInBounds_toArray, List.set_cons_zero, List.set_cons_succ]
    refine wpAnyH_take (i := 16) (v := ?_) (oper_at (r := _) rfl) (by kernel_rfl) (by kernel_rfl) (by kernel_rfl) (fun _ _ _ h => h) (Or.inl ⟨by rfl, ?_⟩) (by assumption) ?_
    rotate_left
    · intro w hSw; try dsimp only at hSw
      go_simp
      try with_reducible rfl
    try simp only [Act.put, List.setIfInBounds_toArray, List.set_cons_zero, List.set_cons_succ]
    refine wpAnyH_take (i := 17) (v := ?_) (oper_at (r := _) rfl) (by kernel_rfl) (by kernel_rfl) (by kernel_rfl) (fun _ _ _ h => h) (Or.inl ⟨by rfl, ?_⟩) (by assumption) ?_
    rotate_left
    · intro w hSw; try dsimp only at hSw
      go_simp
      try with_reducible rfl
    try simp only [Act.put, List.setIfInBounds_toArray, List.set_cons_zero, List.set_cons_succ]
    refine wpAnyH_take (i := 18) (v := ?_) (oper_at (r := _) rfl) (by kernel_rfl) (by kernel_rfl) (by kernel_rfl) (fun _ _ _ h => h) (Or.inl ⟨by rfl, ?_⟩) (by assumption) ?_
    rotate_left
    · intro w hSw; try dsimp only at hSw
      go_simp
      try with_reducible rfl
    try simp only [Act.put, List.setIfInBounds_toArray, List.set_cons_zero, List.set_cons_succ]
    refine wpAnyH_take (i := 19) (v := ?_) (oper_at (r := _) rfl) (by kernel_rfl) (by kernel_rfl) (by kernel_rfl) (fun _ _ _ h => h) (Or.inl ⟨by rfl, ?_⟩) (by assumption) ?_
    rotate_left
    · intro w hSw; try dsimp only at hSw
      go_simp
      try with_reducible rfl
    try simp only [Act.put, List.setIfInBounds_toArray, List.set_cons_zero, List.set_cons_succ]
    refine wpAnyH_take (i := 20) (v := ?_) (oper_at (r := _) rfl) (by kernel_rfl) (by kernel_rfl) (by kernel_rfl) (fun _ _ _ h => h) (Or.inl ⟨by rfl, ?_⟩) (by assumption) ?_
    rotate_left
    · intro w hSw; try dsimp only at hSw
      go_simp
      try with_reducible rfl
    try simp only [Act.put, List.setIfInBounds_toArray, List.set_cons_zero, List.set_cons_succ]
    refine wpAnyH_ready (rs := [21]) (by kernel_rfl) (by simp) ?_
    refine AllReadyH.cons (oper_at (r := _) rfl) (fun K hK => ?_) AllReadyH.nil
    go_simp
    refine HIN.out.mono ?_
    rintro e w6 ⟨rfl, hb6⟩
    have HB6 := Lib.hid (HB5.out.trans (hb6.mono HB5.out.size))
    clear hb6
    go_wp2_with fail
    refine hK.out _ _ (HM.out _ HB6.out) (fun _ => ?_)
    clear hK K
    try simp only [Act.put, List.setIfInBounds_toArray, List.set_cons_zero, List.set_cons_succ]
    refine wpAnyH_take (i := 22) (v := ?_) (oper_at (r := _) rfl) (by kernel_rfl) (by kernel_rfl) (by kernel_rfl) (fun _ _ _ h => h) (Or.inl ⟨by rfl, ?_⟩) (by assumption) ?_
    rotate_left
    · intro w hSw; try dsimp only at hSw
      go_simp
      try with_reducible rfl
    try simp only [Act.put, List.setIfInBounds_toArray, List.set_cons_zero, List.set_cons_succ]
    refine wpAnyH_take (i := 23) (v := ?_) (oper_at (r := _) rfl) (by kernel_rfl) (by kernel_rfl) (by kernel_rfl) (fun _ _ _ h => h) (Or.inl ⟨by rfl, ?_⟩) (by assumption) ?_
    rotate_left
    · intro w hSw; try dsimp only at hSw
      go_simp
      try with_reducible rfl
    try simp only [Act.put, List.setIfInBounds_toArray, List.set_cons_zero, List.set_cons_succ]
    refine wpAnyH_take (i := 24) (v := ?_) (oper_at (r := _) rfl) (by kernel_rfl) (by kernel_rfl) (by kernel_rfl) (fun _ _ _ h => h) (Or.inl ⟨by rfl, ?_⟩) (by assumption) ?_
    rotate_left
    · intro w hSw; try dsimp only at hSw
      go_simp
      try with_reducible rfl
    try simp only [Act.put, List.setIfInBounds_toArray, List.set_cons_zero]
    refine wpAnyH_done (by kernel_rfl) ?_ _
    refine NoPanic.normal ?_
    go_wp2_with fail
    go_ret
    exact ⟨rfl, HK3.out.2.2.2.2.1.trans (HB6.out.mono HK3.out.2.2.2.2.1.size)⟩
  · skip
    have Ba := Bwd.alloc Bwd.size (.cells #[.int .i64 0] 3)
    have Xa := heap_alloc_new wd (.cells #[.int .i64 0] 3)
    obtain ⟨ga, hga⟩ : ∃ g, g = wd.heap.size := ⟨_, rfl⟩
    rw [← hga] at Xa
    go_simp
    refine hK.out _ _ (HM.out _ Ba) (fun _ => ?_)
    clear hK K
    try simp only [Act.put, List.setIfInBounds_toArray, List.set_cons_zero, List.set_cons_succ]
    generalize wd.alloc (.cells #[.int .i64 0] 3) = Wa at *
    try rw [← hga]
    clear hga
    refine wpAnyH_ready (rs := [3]) (by kernel_rfl) (by simp) ?_
    refine AllReadyH.cons (oper_at (r := _) rfl) (fun K hK => ?_) AllReadyH.nil
    have Bb := Ba.alloc Ba.size (.cells #[.int .i64 0, .int .i64 0] 3)
    have Xb := heap_alloc_new Wa (.cells #[.int .i64 0, .int .i64 0] 3)
    have Xa2 := (Below.heap_alloc Wa (.cells #[.int .i64 0, .int .i64 0] 3) _ (heap_lt Xa)).trans Xa
    obtain ⟨gb, hgb⟩ : ∃ g, g = Wa.heap.size := ⟨_, rfl⟩
    rw [← hgb] at Xb
    go_simp
    refine hK.out _ _ (HM.out _ Bb) (fun _ => ?_)
    clear hK K
    try simp only [Act.put, List.setIfInBounds_toArray, List.set_cons_zero, List.set_cons_succ]
    generalize Wa.alloc (.cells #[.int .i64 0, .int .i64 0] 3) = Wb at *
    try rw [← hgb]
    clear hgb Xa Ba
    refine wpAnyH_take (i := 5) (v := ?_) (oper_at (r := _) rfl) (by kernel_rfl) (by kernel_rfl) (by kernel_rfl) (fun _ _ _ h => h) (Or.inl ⟨by rfl, ?_⟩) (by assumption) ?_
    rotate_left
    · intro w hSw; try dsimp only at hSw
      go_simp
      try with_reducible rfl
    try simp only [Act.put, List.setIfInBounds_toArray, List.set_cons_zero, List.set_cons_succ]
    have q1 : Ints Wb Wb.heap.size (some ⟨gb, 0, none⟩) [0, 0] := reads_lit Xb rfl (heap_lt Xb)
    have q2 : Ints Wb Wb.heap.size (some ⟨ga, 0, none⟩) [0] := reads_lit Xa2 rfl (heap_lt Xa2)
    have hSM := sameMo_any exM1 exM1 M1 k1 M2 k2 (some ⟨gb, 0, none⟩) 2 (some ⟨ga, 0, none⟩) 1 Wb (by decide) (by decide) (Reads.up HR1.out Bb) (Reads.up HR2.out Bb) q1 q2
    rw [decide_eq_true (p := exM1 = exM1) rfl] at hSM
    have HSM := Lib.hid hSM
    have HBB := Lib.hid Bb
    clear q1 q2 hSM Xa2 Xb Bb
    refine wpAnyH_ready (rs := [6]) (by kernel_rfl) (by simp) ?_
    refine AllReadyH.cons (oper_at (r := _) rfl) (fun K hK => ?_) AllReadyH.nil
    go_simp
    refine HSM.out.mono ?_
    rintro e w4 ⟨rfl, hb4⟩
    have HB4 := Lib.hid (HBB.out.trans (hb4.mono HBB.out.size))
    clear hb4
    go_wp2_with fail
    refine hK.out _ _ (HM.out _ HB4.out) (fun _ => ?_)
    clear hK K
    try simp only [Act.put, List.setIfInBounds_toArray, List.set_cons_zero, List.set_cons_succ]
    have hsu := surM_any exA exB exM1 _ _ _ _ _ _ _ _ M1 k1 M2 k2 w4 ((HK3.out.2.2.1).up HB4.out) ((HK3.out.2.2.2.1).up HB4.out) (Reads.up HR1.out HB4.out) (Reads.up HR2.out HB4.out) (by decide) (by decide)
    rw [ex_sur] at hsu
    have HSU := Lib.hid hsu
    clear hsu
    refine wpAnyH_take (i := 7) (v := ?_) (oper_at (r := _) rfl) (by kernel_rfl) (by kernel_rfl) (by kernel_rfl) (fun _ _ _ h => h) (Or.inl ⟨by rfl, ?_⟩) (by assumption) ?_
    rotate_left
    · intro w hSw; try dsimp only at hSw
      go_simp
      try with_reducible rfl
    try simp only [Act.put, List.setIfInBounds_toArray, List.set_cons_zero, List.set_cons_succ]
    refine wpAnyH_take (i := 8) (v := ?_) (oper_at (r := _) rfl) (by kernel_rfl) (by kernel_rfl) (by kernel_rfl) (fun _ _ _ h => h) (Or.inl ⟨by rfl, ?_⟩) (by assumption) ?_
    rotate_left
    · intro w hSw; try dsimp only at hSw
      go_simp
      try with_reducible rfl
    try simp only [Act.put, List.setIfInBounds_toArray, List.set_cons_zero, List.set_cons_succ]
    refine wpAnyH_take (i := 9) (v := ?_) (oper_at (r := _) rfl) (by kernel_rfl) (by kernel_rfl) (by kernel_rfl) (fun _ _ _ h => h) (Or.inl ⟨by rfl, ?_⟩) (by assumption) ?_
    rotate_left
    · intro w hSw; try dsimp only at hSw
      go_simp
      try with_reducible rfl
    try simp only [Act.put, List.setIfInBounds_toArray, List.set_cons_zero, List.set_cons_succ]
    refine wpAnyH_take (i := 10) (v := ?_) (oper_at (r := _) rfl) (by kernel_rfl) (by kernel_rfl) (by kernel_rfl) (fun _ _ _ h => h) (Or.inl ⟨by rfl, ?_⟩) (by assumption) ?_
    rotate_left
    · intro w hSw; try dsimp only at hSw
      go_simp
      try with_reducible rfl
    try simp only [Act.put, List.setIfInBounds_toArray, List.set_cons_zero, List.set_cons_succ]
    refine wpAnyH_take (i := 11) (v := ?_) (oper_at (r := _) rfl) (by kernel_rfl) (by kernel_rfl) (by kernel_rfl) (fun _ _ _ h => h) (Or.inl ⟨by rfl, ?_⟩) (by assumption) ?_
    rotate_left
    · intro w hSw; try dsimp only at hSw
      go_simp
      try with_reducible rfl
    try simp only [Act.put, List.setIfInBounds_toArray, List.set_cons_zero, List.set_cons_succ]
    refine wpAnyH_take (i := 12) (v := ?_) (oper_at (r := _) rfl) (by kernel_rfl) (by kernel_rfl) (by kernel_rfl) (fun _ _ _ h => h) (Or.inl ⟨by rfl, ?_⟩) (by assumption) ?_
    rotate_left
    · intro w hSw; try dsimp only at hSw
      go_simp
      try with_reducible rfl
    try simp only [Act.put, List.setIfInBounds_toArray, List.set_cons_zero, List.set_cons_succ]
    refine wpAnyH_ready (rs := [13]) (by kernel_rfl) (by simp) ?_
    refine AllReadyH.cons (oper_at (r := _) rfl) (fun K hK => ?_) AllReadyH.nil
    go_simp
    refine HSU.out.mono ?_
    rintro e w5 ⟨rfl, hb5⟩
    have HB5 := Lib.hid (HB4.out.trans (hb5.mono HB4.out.size))
    clear hb5
    go_wp2_with fail
    refine hK.out _ _ (HM.out _ HB5.out) (fun _ => ?_)
    clear hK K
    try simp only [Act.put, List.setIfInBounds_toArray, List.set_cons_zero, List.set_cons_succ]
    have hin := injM_any exA exB exM1 _ _ _ _ _ _ _ _ M1 k1 M2 k2 w5 ((HK3.out.2.2.1).up HB5.out) ((HK3.out.2.2.2.1).up HB5.out) (Reads.up HR1.out HB5.out) (Reads.up HR2.out HB5.out) (by decide) (by decide)
    rw [ex_inj] at hin
    have HIN := Lib.hid hin
    clear hin
    refine wpAnyH_take (i := 14) (v := ?_) (oper_at (r := _) rfl) (by kernel_rfl) (by kernel_rfl) (by kernel_rfl) (fun _ _ _ h => h) (Or.inl ⟨by rfl, ?_⟩) (by assumption) ?_
    rotate_left
    · intro w hSw; try dsimp only at hSw
      go_simp
      try with_reducible rfl
    try simp only [Act.put, List.setIfInBounds_toArray, List.set_cons_zero, List.set_cons_succ]
    refine wpAnyH_take (i := 15) (v := ?_) (oper_at (r := _) rfl) (by kernel_rfl) (by kernel_rfl) (by kernel_rfl) (fun _ _ _ h => h) (Or.inl ⟨by rfl, ?_⟩) (by assumption) ?_
    rotate_left
    · intro w hSw; try dsimp only at hSw
      go_simp
      try with_reducible rfl
    try simp only [Act.put, List.setIfInBounds_toArray, List.set_cons_zero, List.set_cons_succ]
    refine wpAnyH_take (i := 16) (v := ?_) (oper_at (r := _) rfl) (by kernel_rfl) (by kernel_rfl) (by kernel_rfl) (fun _ _ _ h => h) (Or.inl ⟨by rfl, ?_⟩) (by assumption) ?_
    rotate_left
    · intro w hSw; try dsimp only at hSw
      go_simp
      try with_reducible rfl
    try simp only [Act.put, List.setIfInBounds_toArray, List.set_cons_zero, List.set_cons_succ]
    refine wpAnyH_take (i := 17) (v := ?_) (oper_at (r := _) rfl) (by kernel_rfl) (by kernel_rfl) (by kernel_rfl) (fun _ _ _ h => h) (Or.inl ⟨by rfl, ?_⟩) (by assumption) ?_
    rotate_left
    · intro w hSw; try dsimp only at hSw
      go_simp
      try with_reducible rfl
    try simp only [Act.put, List.setIfInBounds_toArray, List.set_cons_zero, List.set_cons_succ]
    refine wpAnyH_take (i := 18) (v := ?_) (oper_at (r := _) rfl) (by kernel_rfl) (by kernel_rfl) (by kernel_rfl) (fun _ _ _ h => h) (Or.inl ⟨by rfl, ?_⟩) (by assumption) ?_
    rotate_left
    · intro w hSw; try dsimp only at hSw
      go_simp
      try with_reducible rfl
    try simp only [Act.put, List.setIfInBounds_toArray, List.set_cons_zero, List.set_cons_succ]
    refine wpAnyH_take (i := 19) (v := ?_) (oper_at (r := _) rfl) (by kernel_rfl) (by kernel_rfl) (by kernel_rfl) (fun _ _ _ h => h) (Or.inl ⟨by rfl, ?_⟩) (by assumption) ?_
    rotate_left
    · intro w hSw; try dsimp only at hSw
      go_simp
      try with_reducible rfl
    try simp only [Act.put, List.setIfInBounds_toArray, List.set_cons_zero, List.set_cons_succ]
    refine wpAnyH_take (i := 20) (v := ?_) (oper_at (r := _) rfl) (by kernel_rfl) (by kernel_rfl) (by kernel_rfl) (fun _ _ _ h => h) (Or.inl ⟨by rfl, ?_⟩) (by assumption) ?_
    rotate_left
    · intro w hSw; try dsimp only at hSw
      go_simp
      try with_reducible rfl
    try simp only [Act.put, List.setIfInBounds_toArray, List.set_cons_zero, List.set_cons_succ]
    refine wpAnyH_ready (rs := [21]) (by kernel_rfl) (by simp) ?_
    refine AllReadyH.cons (oper_at (r := _) rfl) (fun K hK => ?_) AllReadyH.nil
    go_simp
    refine HIN.out.mono ?_
    rintro e w6 ⟨rfl, hb6⟩
    have HB6 := Lib.hid (HB5.out.trans (hb6.mono HB5.out.size))
    clear hb6
    go_wp2_with fail
    refine hK.out _ _ (HM.out _ HB6.out) (fun _ => ?_)
    clear hK K
    try simp only [Act.put, List.setIfInBounds_toArray, List.set_cons_zero, List.set_cons_succ]
    refine wpAnyH_take (i := 22) (v := ?_) (oper_at (r := _) rfl) (by kernel_rfl) (by kernel_rfl) (by kernel_rfl) (fun _ _ _ h => h) (Or.inl ⟨by rfl, ?_⟩) (by assumption) ?_
    rotate_left
    · intro w hSw; try dsimp only at hSw
      go_simp
      try with_reducible rfl
    try simp only [Act.put, List.setIfInBounds_toArray, List.set_cons_zero, List.set_cons_succ]
    refine wpAnyH_take (i := 23) (v := ?_) (oper_at (r := _) rfl) (by kernel_rfl) (by kernel_rfl) (by kernel_rfl) (fun _ _ _ h => h) (Or.inl ⟨by rfl, ?_⟩) (by assumption) ?_
    rotate_left
    · intro w hSw; try dsimp only at hSw
      go_simp
      try with_reducible rfl
    try simp only [Act.put, List.setIfInBounds_toArray, List.set_cons_zero, List.set_cons_succ]
    refine wpAnyH_take (i := 24) (v := ?_) (oper_at (r := _) rfl) (by kernel_rfl) (by kernel_rfl) (by kernel_rfl) (fun _ _ _ h => h) (Or.inl ⟨by rfl, ?_⟩) (by assumption) ?_
    rotate_left
    · intro w hSw; try dsimp only at hSw
      go_simp
      try with_reducible rfl
    try simp only [Act.put, List.setIfInBounds_toArray, List.set_cons_zero]
    refine wpAnyH_done (by kernel_rfl) ?_ _
    refine NoPanic.normal ?_
    go_wp2_with fail
    go_ret
    exact ⟨rfl, HK3.out.2.2.2.2.1.trans (HB6.out.mono HK3.out.2.2.2.2.1.size)⟩

end Go.Proofs.YtaeelanbkdkppaaDoor

/-
  few and copied of the laws. Printed by mklaw6.py.
-/
namespace Go.Proofs.YtaeelanbkdkppaaDoor
open Go.RowKit Go.Shelf

/-- an arrow as the laws are given it -/
structure Ar where
  g : Gr
  m : Mo
  An : Option Addr
  cn : Nat
  Ae : Option Addr
  ce : Nat
  Mn : Option Addr
  mn : Nat
  Me : Option Addr
  me : Nat
def Ar.val (x : Ar) : Value := .agg #[.slice x.An x.g.ns.length x.cn, .slice x.Ae x.g.es.length x.ce, .slice x.Mn x.m.ns.length x.mn, .slice x.Me x.m.es.length x.me]
structure ArAt (w : World) (x : Ar) : Prop where
  gr : GrAt w x.An x.cn x.Ae x.ce x.g
  m1 : Ints w w.heap.size x.Mn x.m.ns
  m2 : Ints w w.heap.size x.Me x.m.es
  l1 : x.m.ns.length ≤ 1152921504606846976
  l2 : x.m.es.length ≤ 1152921504606846976
theorem ArAt.up {w w' : World} {x : Ar} (h : ArAt w x) (hb : Below w.heap.size w w') : ArAt w' x := ⟨h.gr.up hb, Reads.up h.m1 hb, Reads.up h.m2 hb, h.l1, h.l2⟩
/-- a block of arrows -/
def ArsAt (u : World) (b : Nat) (L : List Ar) : Prop := b < u.heap.size ∧ ∀ i (h : i < L.length), u.cell? ⟨b, i * 4, none⟩ = some (.slice L[i].An L[i].g.ns.length L[i].cn) ∧ u.cell? ⟨b, i * 4 + 1, none⟩ = some (.slice L[i].Ae L[i].g.es.length L[i].ce) ∧ u.cell? ⟨b, i * 4 + 2, none⟩ = some (.slice L[i].Mn L[i].m.ns.length L[i].mn) ∧ u.cell? ⟨b, i * 4 + 3, none⟩ = some (.slice L[i].Me L[i].m.es.length L[i].me)
theorem ArsAt.up {u u' : World} {b : Nat} {L : List Ar} (h : ArsAt u b L) (hb : Below u.heap.size u u') : ArsAt u' b L :=
  ⟨Nat.lt_of_lt_of_le h.1 hb.size, fun i hi => ⟨cell_up hb (h.2 i hi).1, cell_up hb (h.2 i hi).2.1, cell_up hb (h.2 i hi).2.2.1, cell_up hb (h.2 i hi).2.2.2⟩⟩

end Go.Proofs.YtaeelanbkdkppaaDoor

/-
  What the laws of morphisms need: boxes of any number of cells; stores into boxes of slices; the law's guard.
-/
namespace Go.Proofs.YtaeelanbkdkppaaDoor
open Go.RowKit Go.Shelf

/-- since w: boxes in new blocks, one after another -/
def SV (w : World) (L : List (List Value × TypeId)) (u : World) : Prop := Below w.heap.size w u ∧ w.heap.size + L.length ≤ u.heap.size ∧ ∀ (i : Nat) (x : List Value × TypeId), L[i]? = some x → u.heap[w.heap.size + i]? = some (.cells x.1.toArray x.2 (0, 0))
theorem SV.nil (w : World) : SV w [] w := ⟨Below.refl _ _, Nat.le_refl _, fun i x h => by simp at h⟩
theorem SV.push {w u : World} {L : List (List Value × TypeId)} (h : SV w L u) (hs : u.heap.size = w.heap.size + L.length) (cs : List Value) (t : TypeId) : SV w (L ++ [(cs, t)]) (u.alloc (.cells cs.toArray t)) := by
  refine ⟨h.1.alloc (by omega) _, by simp; omega, fun i x hx => ?_⟩
  by_cases hi : i < L.length
  · rw [List.getElem?_append_left hi] at hx
    rw [at_alloc, if_neg (by omega)]
    exact h.2.2 i x hx
  · rw [List.getElem?_append_right (by omega)] at hx
    have h0 : i - L.length = 0 := by
      rcases Nat.eq_zero_or_pos (i - L.length) with h | h
      · exact h
      · rw [List.getElem?_eq_none (by simp; omega)] at hx; cases hx
    rw [h0] at hx
    simp at hx
    subst hx
    rw [at_alloc, if_pos (by omega)]
theorem SV.up {w u u' : World} {L : List (List Value × TypeId)} (h : SV w L u) (hb : Below u.heap.size u u') : SV w L u' := ⟨h.1.trans (hb.mono h.1.size), Nat.le_trans h.2.1 hb.size, fun i x hx => heap_up hb (h.2.2 i x hx)⟩
theorem SV.cell {w u : World} {L : List (List Value × TypeId)} (h : SV w L u) {i j : Nat} {x : List Value × TypeId} {v : Value} (hx : L[i]? = some x) (hv : x.1[j]? = some v) : u.cell? ⟨w.heap.size + i, j, none⟩ = some v := by
  rw [cell_of_row _ _ j _ _ _ (h.2.2 i x hx)]
  simpa using hv
theorem SV.set {w u : World} {L : List (List Value × TypeId)} (h : SV w L u) {g : Nat} (hg : w.heap.size + L.length ≤ g) (y z : Value) : SV w L ((u.setCell ⟨g, 0, none⟩ y).setCell ⟨g, 1, none⟩ z) := by
  refine ⟨(h.1.setCell (p := ⟨g, 0, none⟩) (by show w.heap.size ≤ g; omega) y).setCell (p := ⟨g, 1, none⟩) (by show w.heap.size ≤ g; omega) z, by simpa using h.2.1, fun k x hx => ?_⟩
  have hl : k < L.length := (List.getElem?_eq_some_iff.1 hx).1
  exact (heap_setCell_other _ _ _ _ (by show w.heap.size + k ≠ g; omega)).trans ((heap_setCell_other _ _ _ _ (by show w.heap.size + k ≠ g; omega)).trans (h.2.2 k x hx))
/-- a box of two slices -/
def BX (g : Nat) (u v : Value) (t : TypeId) (W : World) : Prop := W.heap[g]? = some (.cells #[u, v] t (0, 0))
theorem BX.up {g : Nat} {u v : Value} {t : TypeId} {W W' : World} (h : BX g u v t W) (hb : Below W.heap.size W W') : BX g u v t W' := heap_up hb h
theorem BX.cells {g : Nat} {u v : Value} {t : TypeId} {W : World} (h : BX g u v t W) : W.cell? ⟨g, 0, none⟩ = some u ∧ W.cell? ⟨g, 1, none⟩ = some v := cell2 h
theorem BX.free {g : Nat} {u v : Value} {t : TypeId} {W : World} (h : BX g u v t W) (j : Nat) : W.frozen? ⟨g, j, none⟩ = false := frozen_of_row _ _ _ _ _ h
theorem BX.lt {g : Nat} {u v : Value} {t : TypeId} {W : World} (h : BX g u v t W) : g < W.heap.size := heap_lt h
theorem BX.far {g k : Nat} {u v : Value} {t : TypeId} {W : World} (h : BX g u v t W) (hk : g ≠ k) (y z : Value) : BX g u v t ((W.setCell ⟨k, 0, none⟩ y).setCell ⟨k, 1, none⟩ z) :=
  (heap_setCell_other _ _ _ _ (by show g ≠ k; exact hk)).trans ((heap_setCell_other _ _ _ _ (by show g ≠ k; exact hk)).trans h)
theorem BX.put {g : Nat} {u v : Value} {t : TypeId} {W : World} (h : BX g u v t W) (y z : Value) : BX g y z t ((W.setCell ⟨g, 0, none⟩ y).setCell ⟨g, 1, none⟩ z) := store2 (h := g) ⟨_, _, h⟩ y z
theorem awk {w : World} (h00 : 0 < w.heap.size) (hT : TabW w) (u : World) (hu : Below w.heap.size w u) : Calls Tryd.prog 10 #[] u fun e w' => e = .returned (.bool true) ∧ Below u.heap.size u w' :=
  awake_any u (Nat.lt_of_lt_of_le h00 hu.size) (hT.up (hu.block 0 h00))
/-- a call that hands over a morphism -/
abbrev GivesM (f : FuncId) (args : Array Value) (E : Nat) (R : Mo) (u : World) : Prop := Calls Tryd.prog f args u fun e w' => (∃ Xn xn Xe xe, e = .returned (.tuple #[gval Xn R.ns.length xn Xe R.es.length xe, .int .i64 (E : Int)]) ∧ Ints w' w'.heap.size Xn R.ns ∧ Ints w' w'.heap.size Xe R.es ∧ R.ns.length ≤ maxLen ∧ R.es.length ≤ maxLen) ∧ Below u.heap.size u w'
theorem givesM {f : FuncId} {args : Array Value} {E : Nat} {R : Mo} {u : World} (h : Calls Tryd.prog f args u fun e w' => (∃ v, e = .returned (.tuple #[v, .int .i64 (E : Int)]) ∧ IsM w' v R) ∧ Below u.heap.size u w') : GivesM f args E R u := by
  refine h.mono ?_
  rintro e w' ⟨⟨v, rfl, Xn, xn, Xe, xe, rfl, hx⟩, hb⟩
  exact ⟨⟨Xn, xn, Xe, xe, rfl, hx.ns, hx.es, Nat.le_trans hx.cn.1 hx.cn.2, Nat.le_trans hx.ce.1 hx.ce.2⟩, hb⟩
abbrev R2 (m : Mo) : Prop := m.ns.length ≤ maxLen ∧ m.es.length ≤ maxLen
end Go.Proofs.YtaeelanbkdkppaaDoor

/-
  The reference's numbers and Image.
-/
namespace Go.Proofs.YtaeelanbkdkppaaDoor
open Go.RowKit Go.Shelf

theorem cells_toI (ys : List Nat) : cellsE EInt (Pt.toI ys) = Pt.cellsN ys := by
  induction ys with
  | nil => rfl
  | cons y r ih =>
    simp only [Pt.toI, Pt.cellsN, List.map_cons, cellsE, List.flatMap_cons] at ih ⊢
    rw [ih]; rfl
theorem own_toI {w : World} {base : Nat} {v : Value} {ys : List Nat} (h : Pt.Own w base v ys) : OwnI w base v (Pt.toI ys) := by
  show w.ownsRow base 3 1 v (Pt.toI ys).length (cellsE EInt (Pt.toI ys))
  rw [cells_toI, Pt.toI_length]
  exact h
/-- numbers of bytes -/
structure NumOk (cs : List Int) : Prop where
  p : 0 < cs.length
  l : cs.length ≤ 1000
  r : ∀ i, 0 ≤ cs.getD i 0 ∧ cs.getD i 0 < 256
set_option maxRecDepth 100000 in
set_option maxHeartbeats 2000000 in
theorem nums_any (ys : List Nat) (A : Option Addr) (c : Nat) (w : World) (hA : Reads EBy w w.heap.size A ys) (hb : ∀ i, ys.getD i 0 < 256) (hl : ys.length ≤ 1000) :
    Calls Tryd.prog 59 #[.slice A ys.length c] w fun e w' => ∃ v cs, e = .returned v ∧ OwnI w' w.heap.size v cs ∧ NumOk cs ∧ Below w.heap.size w w' := by
  have HA := Lib.hid hA
  have HB := Lib.hid hb
  obtain ⟨zs, hzs⟩ : ∃ zs : List Int, zs = ys.map fun n : Nat => (n : Int) := ⟨_, rfl⟩
  have HL : Hid (zs.length = ys.length) := Lib.hid (by rw [hzs]; simp)
  have HZ : Hid (∀ i, zs.getD i 0 = ((ys.getD i 0 : Nat) : Int)) := Lib.hid fun i => by
    rw [hzs]
    simp only [List.getD_eq_getElem?_getD, List.getElem?_map]
    cases ys[i]? <;> rfl
  have HT : Hid (∀ k, k < ys.length → zs.take (k + 1) = zs.take k ++ [((ys.getD k 0 : Nat) : Int)]) := Lib.hid fun k hk => by
    rw [List.take_succ_eq_append_getElem (by rw [HL.out]; exact hk), ← HZ.out k, List.getD_eq_getElem?_getD, List.getElem?_eq_getElem (by rw [HL.out]; exact hk)]
    rfl
  have HFIN : Hid (zs.take ys.length = zs) := Lib.hid (List.take_of_length_le (by rw [HL.out]; exact Nat.le_refl _))
  clear hA hb hzs
  go_enter Tryd.func59, Tryd.ntmps59
  go_wp2_with fail
  go_loopw [3, 4] (fun v x wr => ∃ k : Nat, k ≤ ys.length ∧ x = .int .i64 (k : Int) ∧ OwnI wr w.heap.size v (zs.take k) ∧ Below w.heap.size w wr) (fun _ x _ => ys.length - (intOf x).toNat)
  case atStart =>
    refine ⟨0, Nat.zero_le _, rfl, ?_, (Below.refl _ _).alloc (Nat.le_refl _) _⟩
    exact OwnE.empty (heap_alloc_new w (.cells #[] 3)) (Nat.le_refl _)
  case round =>
    obtain ⟨k, hk, rfl, hO, hbel⟩ := hrel
    have HO := Lib.hid hO
    have HBL := Lib.hid hbel
    clear hO
    by_cases hlt : k < ys.length
    · obtain ⟨b, off, rfl, hbb, hcx⟩ := byte_at (Reads.below HA.out hbel) hlt
      have hx := HB.out k
      have HS := Lib.hid (HT.out k hlt)
      have hlen : (zs.take k).length ≤ 1000 := by rw [List.length_take]; omega
      have HLN := Lib.hid hlen
      have HKL := Lib.hid hlt
      have i0 : (0 : Int) ≤ (k : Int) := by omega
      have i1 : (k : Int) < (ys.length : Int) := by omega
      have i2 : ((k : Int)).toNat = k := by omega
      have HM : Hid (ys.length - ((k : Int) + 1).toNat < ys.length - ((k : Int)).toNat) := Lib.hid (by omega)
      generalize ys.getD k 0 = x at *
      generalize zs.take k = ts at *
      have hw1 : IntKind.i64.wrap (x : Int) = (x : Int) := IntWalk.i64_in _ (by omega)
      have HL2 := Lib.hid (heap_alloc_new wr (.cells #[.int .i64 (x : Int)] 3))
      have HB2 : Hid (Below w.heap.size w (wr.alloc (.cells #[.int .i64 (x : Int)] 3))) := Lib.hid (hbel.alloc hbel.size _)
      have HO2 := Lib.hid (OwnE.alloc HO.out (.cells #[.int .i64 (x : Int)] 3))
      clear hlen hlt HO hbel
      go_wp2_with (at_builtin; refine wpList_append_E (E := EInt) (w := wr.alloc (.cells #[.int .i64 (x : Int)] 3)) rfl _ _ 22 3 rfl Tryd.underlying22 infoInt rfl (by decide) (by decide) w.heap.size _ ts rfl ?z1 ⟨wr.heap.size, 0, none⟩ 1 (x : Int) rfl ?z2 ?z3 ?z4 ?_)
      case z1 => exact HO2.out
      case z2 =>
        intro j u hu
        rw [addr_plain, Nat.zero_add, cell_of_row _ _ j _ _ _ HL2.out]
        simpa [EInt] using hu
      case z3 => have := HLN.out; omega
      case z4 => exact HB2.out.size
      intro v2 w2 ho2 _ hb2
      have HO3 := Lib.hid ho2
      have HB3 := Lib.hid (HB2.out.trans hb2)
      clear ho2 hb2 HL2 HB2 HO2
      go_wp2_with fail
      go_roundw
      case rel => exact ⟨k + 1, HKL.out, by go_num, by rw [HS.out]; exact HO3.out, HB3.out⟩
      case measure => exact HM.out
    · have hke : k = ys.length := by omega
      subst hke
      rw [HFIN.out] at HO
      obtain ⟨ao, co, rfl⟩ := OwnE.slice HO.out
      clear hlt hk
      by_cases h0 : zs.length = 0
      · have t1 : ((zs.length : Int) == 0) = true := beq_iff_eq.2 (by omega)
        have HX := Lib.hid (heap_alloc_new wr (.cells #[.int .i64 0] 3))
        have HBX : Hid (Below w.heap.size w (wr.alloc (.cells #[.int .i64 0] 3))) := Lib.hid (hbel.alloc hbel.size _)
        have HW := Lib.hid hbel.size
        clear h0 hbel
        go_wp2_with fail
        go_ret
        refine ⟨_, [0], rfl, ⟨by simp [cellsE, EInt], .inr ⟨wr.heap.size, 1, #[.int .i64 0], rfl, HW.out, HX.out, ?_⟩⟩, ⟨by simp, by simp, fun i => ?_⟩, HBX.out⟩
        · simp [cellsE, EInt, maxLen]
        · cases i <;> simp
      · have t1 : ((zs.length : Int) == 0) = false := beq_eq_false_iff_ne.2 (by omega)
        have HN : Hid (NumOk zs) := Lib.hid ⟨by omega, by rw [HL.out]; exact hl, fun i => by rw [HZ.out i]; have := HB.out i; omega⟩
        clear h0 hbel
        go_wp2_with fail
        go_ret
        exact ⟨_, zs, rfl, HO.out, HN.out, HBL.out⟩

end Go.Proofs.YtaeelanbkdkppaaDoor

/-
  What the loops of Image keep.
-/
namespace Go.Proofs.YtaeelanbkdkppaaDoor
open Go.RowKit Go.Shelf

/-- what the later loops leave alone: the boxes, the classes' numbers, the codes -/
structure ImS (g : Gr) (An : Option Addr) (cn : Nat) (Ae : Option Addr) (ce : Nat) (w : World) (vq vc : Value) (qs cs : List Int) (B gz bo bm : Nat) (V : World) : Prop where
  sv : SV w [([.slice An g.ns.length cn, .slice Ae g.es.length ce], 25), ([.slice none 0 0, .slice none 0 0], 25), ([.slice none 0 0, .slice none 0 0], 27)] V
  rq : OwnI V w.heap.size vq qs
  rc : OwnI V w.heap.size vc cs
  nq : ∀ b, vq.ownBlock = some b → b < B ∧ b ≠ gz ∧ b ≠ bo ∧ b ≠ bm
  nc : ∀ b, vc.ownBlock = some b → b < B ∧ b ≠ gz ∧ b ≠ bo ∧ b ≠ bm
  ng : w.heap.size + 3 ≤ gz ∧ w.heap.size + 3 ≤ bo ∧ w.heap.size + 3 ≤ bm ∧ gz < B ∧ bo < B ∧ bm < B ∧ gz ≠ bo ∧ gz ≠ bm ∧ bo ≠ bm
  hB : B ≤ V.heap.size
theorem own_at {V V' : World} {B : Nat} {x : Value} {xs : List Int} (h : OwnI V B x xs) (hk : ∀ b, x.ownBlock = some b → V'.heap[b]? = V.heap[b]?) : OwnI V' B x xs := ownsRow_same h hk
theorem ImS.keep {g : Gr} {An : Option Addr} {cn : Nat} {Ae : Option Addr} {ce : Nat} {w : World} {vq vc : Value} {qs cs : List Int} {B gz bo bm : Nat} {V V' : World} (h : ImS g An cn Ae ce w vq vc qs cs B gz bo bm V) (hb : Below w.heap.size w V') (hs : V.heap.size ≤ V'.heap.size)
    (hk : ∀ b, b < B → b ≠ gz → b ≠ bo → b ≠ bm → V'.heap[b]? = V.heap[b]?) : ImS g An cn Ae ce w vq vc qs cs B gz bo bm V' := by
  obtain ⟨n1, n2, n3, n4, n5, n6, n7, n8, n9⟩ := h.ng
  refine ⟨⟨hb, Nat.le_trans h.sv.2.1 hs, fun i x hx => ?_⟩, own_at h.rq fun b hb => hk b (h.nq b hb).1 (h.nq b hb).2.1 (h.nq b hb).2.2.1 (h.nq b hb).2.2.2, own_at h.rc fun b hb => hk b (h.nc b hb).1 (h.nc b hb).2.1 (h.nc b hb).2.2.1 (h.nc b hb).2.2.2, h.nq, h.nc, h.ng, Nat.le_trans h.hB hs⟩
  have hl : i < 3 := (List.getElem?_eq_some_iff.1 hx).1
  rw [hk _ (by omega) (by omega) (by omega) (by omega)]
  exact h.sv.2.2 i x hx
theorem ImS.up {g : Gr} {An : Option Addr} {cn : Nat} {Ae : Option Addr} {ce : Nat} {w : World} {vq vc : Value} {qs cs : List Int} {B gz bo bm : Nat} {V V' : World} (h : ImS g An cn Ae ce w vq vc qs cs B gz bo bm V) (hb : Below V.heap.size V V') : ImS g An cn Ae ce w vq vc qs cs B gz bo bm V' :=
  h.keep (h.sv.1.trans (hb.mono h.sv.1.size)) hb.size fun b hl _ _ _ => hb.block b (Nat.lt_of_lt_of_le hl h.hB)

theorem own_ne {α β : Type} {E : El α} {F : El β} {t t' : TypeId} {V : World} {b b' : Nat} {x y : Value} {xs : List α} {ys : List β} (h : OwnE E t V b x xs) (k : OwnE F t' V b' y ys) (hne : t ≠ t') : y.ownBlock = none ∨ y.ownBlock ≠ x.ownBlock := by
  rcases k.2 with ⟨rfl, _⟩ | ⟨g, cap, cur, rfl, _, hg, _⟩
  · exact .inl rfl
  · exact .inr fun e => ownsRow_far h hg hne e.symm
/-- the loop over the edges: the two boxes and their rows -/
structure ImT (g : Gr) (An : Option Addr) (cn : Nat) (Ae : Option Addr) (ce : Nat) (w : World) (vq vc : Value) (qs cs : List Int) (B gz bo bm cnt : Nat) (zs : List Int) (xs : List Ed) (ms : List Int) (ve vm : Value) (V : World) : Prop where
  s : ImS g An cn Ae ce w vq vc qs cs B gz bo bm V
  o : BoxIs bo (.slice (some ⟨gz, 0, none⟩) cnt cnt) ve 25 V
  m : BoxIs bm vq vm 27 V
  z : OwnI V gz (.slice (some ⟨gz, 0, none⟩) cnt cnt) zs
  e : OwnEd V B ve xs
  r : OwnI V B vm ms
theorem ImT.up {g : Gr} {An : Option Addr} {cn : Nat} {Ae : Option Addr} {ce : Nat} {w : World} {vq vc : Value} {qs cs : List Int} {B gz bo bm cnt : Nat} {zs : List Int} {xs : List Ed} {ms : List Int} {ve vm : Value} {V V' : World} (h : ImT g An cn Ae ce w vq vc qs cs B gz bo bm cnt zs xs ms ve vm V) (hb : Below V.heap.size V V') : ImT g An cn Ae ce w vq vc qs cs B gz bo bm cnt zs xs ms ve vm V' :=
  ⟨h.s.up hb, h.o.up hb, h.m.up hb, OwnE.below h.z hb (Nat.le_refl _), OwnE.below h.e hb (Nat.le_refl _), OwnE.below h.r hb (Nat.le_refl _)⟩
theorem ImT.putE {g : Gr} {An : Option Addr} {cn : Nat} {Ae : Option Addr} {ce : Nat} {w : World} {vq vc : Value} {qs cs : List Int} {B gz bo bm cnt : Nat} {zs : List Int} {xs : List Ed} {ms : List Int} {ve vm : Value} {V V1 V2 : World} {xs' : List Ed} {ve' : Value} (h : ImT g An cn Ae ce w vq vc qs cs B gz bo bm cnt zs xs ms ve vm V) (h1 : Below V.heap.size V V1) (ho : OwnEd V2 B ve' xs') (hg : V1.grownBy V2 ve.ownBlock) : ImT g An cn Ae ce w vq vc qs cs B gz bo bm cnt zs xs' ms ve' vm (V2.setCell ⟨bo, 1, none⟩ ve') := by
  obtain ⟨n1, n2, n3, n4, n5, n6, n7, n8, n9⟩ := h.s.ng
  have hB := h.s.hB
  have h1s := h1.size
  have k1 := h.up h1
  have hlt : ∀ b, ve.ownBlock = some b → B ≤ b := fun b hb => (OwnE.lt h.e b hb).1
  have hb2 : Below B V1 V2 := (Below.refl B V1).grown hg (by omega) hlt
  have hbw : Below w.heap.size w V2 := k1.s.sv.1.trans (hb2.mono (by omega))
  have hsm : ∀ b, b < B → V2.heap[b]? = V1.heap[b]? := fun b hb => hb2.block b hb
  have oth : ∀ b, b ≠ bo → (V2.setCell ⟨bo, 1, none⟩ ve').heap[b]? = V2.heap[b]? := fun b hb => heap_setCell_other _ _ _ _ hb
  have o2 : BoxIs bo (.slice (some ⟨gz, 0, none⟩) cnt cnt) ve 25 V2 := (hsm bo n5).trans k1.o
  refine ⟨k1.s.keep (hbw.setCell (p := ⟨bo, 1, none⟩) (by show w.heap.size ≤ bo; omega) _) (by simpa using hg.size) fun b hl _ hb _ => (oth b hb).trans (hsm b hl), o2.set1 _, ((oth bm (Ne.symm n9)).trans (hsm bm n6)).trans k1.m, own_at k1.z fun b hb => ?_, ?_, ?_⟩
  · have e : gz = b := Option.some.inj hb
    subst e
    exact (oth gz n7).trans (hsm gz n4)
  · exact ownsRow_same ho fun b hb => oth b (by have := (OwnE.lt ho b hb).1; omega)
  · have hr2 : OwnI V2 B vm ms := OwnE.kept k1.r hg (own_ne k1.e k1.r (by decide))
    exact own_at hr2 fun b hb => oth b (by have := (OwnE.lt hr2 b hb).1; omega)
theorem ImT.putM {g : Gr} {An : Option Addr} {cn : Nat} {Ae : Option Addr} {ce : Nat} {w : World} {vq vc : Value} {qs cs : List Int} {B gz bo bm cnt : Nat} {zs : List Int} {xs : List Ed} {ms : List Int} {ve vm : Value} {V V1 V2 : World} {ms' : List Int} {vm' : Value} (h : ImT g An cn Ae ce w vq vc qs cs B gz bo bm cnt zs xs ms ve vm V) (h1 : Below V.heap.size V V1) (ho : OwnI V2 B vm' ms') (hg : V1.grownBy V2 vm.ownBlock) : ImT g An cn Ae ce w vq vc qs cs B gz bo bm cnt zs xs ms' ve vm' (V2.setCell ⟨bm, 1, none⟩ vm') := by
  obtain ⟨n1, n2, n3, n4, n5, n6, n7, n8, n9⟩ := h.s.ng
  have hB := h.s.hB
  have h1s := h1.size
  have k1 := h.up h1
  have hlt : ∀ b, vm.ownBlock = some b → B ≤ b := fun b hb => (OwnE.lt h.r b hb).1
  have hb2 : Below B V1 V2 := (Below.refl B V1).grown hg (by omega) hlt
  have hbw : Below w.heap.size w V2 := k1.s.sv.1.trans (hb2.mono (by omega))
  have hsm : ∀ b, b < B → V2.heap[b]? = V1.heap[b]? := fun b hb => hb2.block b hb
  have oth : ∀ b, b ≠ bm → (V2.setCell ⟨bm, 1, none⟩ vm').heap[b]? = V2.heap[b]? := fun b hb => heap_setCell_other _ _ _ _ hb
  have o2 : BoxIs bm vq vm 27 V2 := (hsm bm n6).trans k1.m
  refine ⟨k1.s.keep (hbw.setCell (p := ⟨bm, 1, none⟩) (by show w.heap.size ≤ bm; omega) _) (by simpa using hg.size) fun b hl _ _ hb => (oth b hb).trans (hsm b hl), ((oth bo n9).trans (hsm bo n5)).trans k1.o, o2.set1 _, own_at k1.z fun b hb => ?_, ?_, ?_⟩
  · have e : gz = b := Option.some.inj hb
    subst e
    exact (oth gz n8).trans (hsm gz n4)
  · have hr2 : OwnEd V2 B ve xs := OwnE.kept k1.e hg (own_ne k1.r k1.e (by decide))
    exact ownsRow_same hr2 fun b hb => oth b (by have := (OwnE.lt hr2 b hb).1; omega)
  · exact own_at ho fun b hb => oth b (by have := (OwnE.lt ho b hb).1; omega)
theorem ed_lit {W : World} {g : Nat} {x : Ed} {t : TypeId} (h : W.heap[g]? = some (.cells #[.int .i64 x.ty, .int .i64 x.fr, .int .i64 x.tq] t (0, 0))) : ∀ (j : Nat) (u : Value), (EEd.enc x)[j]? = some u → W.cell? ((⟨g, 0, none⟩ : Addr).add j) = some u := fun j u hu => by
  rw [addr_plain, Nat.zero_add, cell_of_row _ _ j _ _ _ h]
  simpa [EEd] using hu
theorem in_lit {W : World} {g : Nat} {k : Int} {t : TypeId} (h : W.heap[g]? = some (.cells #[.int .i64 k] t (0, 0))) : ∀ (j : Nat) (u : Value), (EInt.enc k)[j]? = some u → W.cell? ((⟨g, 0, none⟩ : Addr).add j) = some u := fun j u hu => by
  rw [addr_plain, Nat.zero_add, cell_of_row _ _ j _ _ _ h]
  simpa [EInt] using hu
/-- the results, in their boxes -/
theorem ImT.fin {g : Gr} {An : Option Addr} {cn : Nat} {Ae : Option Addr} {ce : Nat} {w : World} {vq vc : Value} {qs cs : List Int} {B gz bo bm cnt : Nat} {zs : List Int} {xs : List Ed} {ms : List Int} {ve vm : Value} {V : World} (h : ImT g An cn Ae ce w vq vc qs cs B gz bo bm cnt zs xs ms ve vm V) (hv : vq.ownBlock ≠ some (w.heap.size + 1) ∧ vq.ownBlock ≠ some (w.heap.size + 2)) {a b c d : Value} : ∀ V', V' = (((V.setCell ⟨w.heap.size + 1, 0, none⟩ a).setCell ⟨w.heap.size + 1, 1, none⟩ b).setCell ⟨w.heap.size + 2, 0, none⟩ c).setCell ⟨w.heap.size + 2, 1, none⟩ d →
    IsG V' (.agg #[.slice (some ⟨gz, 0, none⟩) cnt cnt, ve]) ⟨zs, xs⟩ ∧ IsM V' (.agg #[vq, vm]) ⟨qs, ms⟩ ∧ BoxIs (w.heap.size + 1) a b 25 V' ∧ BoxIs (w.heap.size + 2) c d 27 V' ∧ Below w.heap.size w V' := by
  intro V' hV
  obtain ⟨n1, n2, n3, n4, n5, n6, n7, n8, n9⟩ := h.s.ng
  have hB := h.s.hB
  have oth : ∀ k, k ≠ w.heap.size + 1 → k ≠ w.heap.size + 2 → V'.heap[k]? = V.heap[k]? := fun k h1 h2 => by
    rw [hV]
    exact (heap_setCell_other _ _ _ _ h2).trans ((heap_setCell_other _ _ _ _ h2).trans ((heap_setCell_other _ _ _ _ h1).trans (heap_setCell_other _ _ _ _ h1)))
  have s1 : BoxIs (w.heap.size + 1) (.slice none 0 0) (.slice none 0 0) 25 V := h.s.sv.2.2 1 _ rfl
  have s2 : BoxIs (w.heap.size + 2) (.slice none 0 0) (.slice none 0 0) 27 V := h.s.sv.2.2 2 _ rfl
  have t1 : BoxIs (w.heap.size + 1) a b 25 V' := by
    rw [hV]
    exact (((s1.set0 a).set1 b).set (p := ⟨w.heap.size + 2, 0, none⟩) (by show w.heap.size + 2 ≠ w.heap.size + 1; omega) c).set (p := ⟨w.heap.size + 2, 1, none⟩) (by show w.heap.size + 2 ≠ w.heap.size + 1; omega) d
  have t2 : BoxIs (w.heap.size + 2) c d 27 V' := by
    rw [hV]
    exact (((s2.set (p := ⟨w.heap.size + 1, 0, none⟩) (by show w.heap.size + 1 ≠ w.heap.size + 2; omega) a).set (p := ⟨w.heap.size + 1, 1, none⟩) (by show w.heap.size + 1 ≠ w.heap.size + 2; omega) b).set0 c).set1 d
  have hz : OwnI V' gz (.slice (some ⟨gz, 0, none⟩) cnt cnt) zs := own_at h.z fun k hk => by
    have e : gz = k := Option.some.inj hk
    subst e
    exact oth gz (by omega) (by omega)
  have he : OwnEd V' B ve xs := ownsRow_same h.e fun k hk => oth k (by have := (OwnE.lt h.e k hk).1; omega) (by have := (OwnE.lt h.e k hk).1; omega)
  have hr : OwnI V' B vm ms := own_at h.r fun k hk => oth k (by have := (OwnE.lt h.r k hk).1; omega) (by have := (OwnE.lt h.r k hk).1; omega)
  have hq : OwnI V' w.heap.size vq qs := own_at h.s.rq fun k hk => oth k (fun e => hv.1 (e ▸ hk)) (fun e => hv.2 (e ▸ hk))
  refine ⟨isG_of (g := ⟨zs, xs⟩) (isI_own hz) (isE_own he), isM_of (g := ⟨qs, ms⟩) (isI_own hq) (isI_own hr), t1, t2, ?_⟩
  rw [hV]
  exact (((h.s.sv.1.setCell (p := ⟨w.heap.size + 1, 0, none⟩) (by show w.heap.size ≤ w.heap.size + 1; omega) a).setCell (p := ⟨w.heap.size + 1, 1, none⟩) (by show w.heap.size ≤ w.heap.size + 1; omega) b).setCell (p := ⟨w.heap.size + 2, 0, none⟩) (by show w.heap.size ≤ w.heap.size + 2; omega) c).setCell (p := ⟨w.heap.size + 2, 1, none⟩) (by show w.heap.size ≤ w.heap.size + 2; omega) d

end Go.Proofs.YtaeelanbkdkppaaDoor

