/-
  Types: Fits, Ancestors, Below of the reference.
-/
import Derived.Test.YtgpcaofikmdpjaaTGiv
import Derived.Deep.RegionLaw
namespace Go.Proofs.Ytgpcaofikmdpjaa
open Go.RowKit

theorem fits_of {t : Typ} {e : Int} (h : inB e 0 ((t.edges.length : Int) - 1) = true) : ∃ k : Nat, e = k ∧ k < t.edges.length := by
  unfold inB at h
  simp only [Bool.and_eq_true, decide_eq_true_eq] at h
  exact ⟨e.toNat, by omega, by omega⟩

set_option linter.unusedSimpArgs false in
set_option maxRecDepth 100000 in
set_option maxHeartbeats 4000000 in
theorem fits_any (hn : NameC 55) (t : Typ) (An : Option Addr) (cn : Nat) (Ae : Option Addr) (ce : Nat) (e a b : Int) (hf : FewT t) (w : World) (hT : TyC w An Ae t) :
    Calls Try.prog 26 #[tyval An t.nodes.length cn Ae t.edges.length ce, .int .i64 e, .int .i64 a, .int .i64 b] w fun e' w' => e' = .returned (.bool (fitsS t e a b)) ∧ Below w.heap.size w w' := by
  have HG := Lib.hid (fun u hu => given_any hn t An cn Ae ce a b hf u hu)
  have HT := Lib.hid hT
  have HX : Hid (fitsS t e a b = (decide (givenE t a b = 0) && (inB e 0 ((t.edges.length : Int) - 1) && (bel t a (t.edges.getD e.toNat default).fr && bel t b (t.edges.getD e.toNat default).to)))) := Lib.hid rfl
  have hm30 := hf.edges
  clear hT hn hf
  generalize fitsS t e a b = R at HX ⊢
  by_cases hg : givenE t a b = 0
  · have hG := giv_of hg
    rw [hg] at HG
    have HX2 : Hid (R = (inB e 0 ((t.edges.length : Int) - 1) && (bel t a (t.edges.getD e.toNat default).fr && bel t b (t.edges.getD e.toNat default).to))) := Lib.hid (by rw [HX.out, decide_eq_true hg, Bool.true_and])
    have HI := Lib.hid (fun u => in_any e 0 ((t.edges.length : Int) - 1) u)
    clear HX hg
    cases hin : inB e 0 ((t.edges.length : Int) - 1) with
    | false =>
      have HX3 : Hid (R = false) := Lib.hid (by rw [HX2.out, hin]; rfl)
      rw [hin] at HI
      clear HX2 hin hG
      go_enter Try.func26, Try.ntmps26
      go_wp2_with fail
      refine (HG.out _ (HT.out.up ((Below.refl _ _).alloc (Nat.le_refl _) _))).mono ?_
      rintro e w1 ⟨rfl, hb1⟩
      have hb1' := below_one' hb1
      obtain ⟨c0, c1⟩ := box_cell hb1'
      have HB1 := Lib.hid (box_below hb1')
      clear hb1 hb1'
      go_wp2_with fail
      refine (HI.out _).mono ?_
      rintro e w2 ⟨rfl, rfl⟩
      go_wp2_with fail
      go_ret
      exact ⟨ret_bool HX3.out.symm, HB1.out⟩
    | true =>
      obtain ⟨k, rfl, hk⟩ := fits_of hin
      have HX3 : Hid (R = (bel t a (t.edges.getD k default).fr && bel t b (t.edges.getD k default).to)) := Lib.hid (by rw [HX2.out, hin, Int.toNat_natCast]; rfl)
      rw [hin] at HI
      have HBA := Lib.hid (fun c u hu => below1_call hG.val.good An cn Ae ce c (show -1 ≤ a by have := hG.a0; omega) hG.a1 u hu)
      have HBB := Lib.hid (fun c u hu => below1_call hG.val.good An cn Ae ce c (show -1 ≤ b by have := hG.b0; omega) hG.b1 u hu)
      have HEC : Hid (∃ b1 off, Ae = some ⟨b1, off, none⟩ ∧ ∀ (u : World), TyC u An Ae t → u.cell? ⟨b1, off + k * 7 + 1, none⟩ = some (.int .i64 (t.edges.getD k default).fr) ∧ u.cell? ⟨b1, off + k * 7 + 2, none⟩ = some (.int .i64 (t.edges.getD k default).to)) := Lib.hid (by
        obtain ⟨b1, off, h1, _⟩ := Edgs.cells HT.out.2 hk
        refine ⟨b1, off, h1, fun u hu => ?_⟩
        obtain ⟨b', off', h2, _, _, h3, h4, _⟩ := Edgs.cells hu.2 hk
        rw [h1] at h2
        simp only [Option.some.injEq, Addr.mk.injEq, and_true] at h2
        obtain ⟨rfl, rfl⟩ := h2
        rw [getD_at hk]
        exact ⟨h3, h4⟩)
      clear HX2 hin hG
      generalize (t.edges.getD k default).fr = fr at HX3 HEC
      generalize (t.edges.getD k default).to = to at HX3 HEC
      have HBA2 := Lib.hid (HBA.out fr)
      have HBB2 := Lib.hid (HBB.out to)
      generalize bel t a fr = z at HX3 HBA2
      generalize bel t b to = y at HX3 HBB2
      obtain ⟨b1, off, rfl, hcell⟩ := HEC.out
      generalize hN : t.nodes.length = N at *
      generalize hM : t.edges.length = M at *
      clear hN hM HEC HBA HBB
      have i0 : (0 : Int) ≤ (k : Int) := by omega
      have i1 : (k : Int) < (M : Int) := by omega
      have i2 : ((k : Int)).toNat = k := by omega
      have HS : Hid (∀ u, Below (w.heap.size + 1) (w.alloc (.cells #[.slice An N cn, .slice (some ⟨b1, off, none⟩) M ce] 25 (0, 0))) u → (u.cell? ⟨w.heap.size, 0, none⟩ = some (.slice An N cn) ∧ u.cell? ⟨w.heap.size, 1, none⟩ = some (.slice (some ⟨b1, off, none⟩) M ce) ∧ u.cell? ⟨b1, off + k * 7 + 1, none⟩ = some (.int .i64 fr) ∧ u.cell? ⟨b1, off + k * 7 + 2, none⟩ = some (.int .i64 to) ∧ Below (w.heap.size + 1) (w.alloc (.cells #[.slice An N cn, .slice (some ⟨b1, off, none⟩) M ce] 25 (0, 0))) u)) := Lib.hid fun u hu =>
        ⟨(box_cell hu).1, (box_cell hu).2, (hcell u (HT.out.up (box_below hu))).1, (hcell u (HT.out.up (box_below hu))).2, hu⟩
      have HBA3 : Hid (∀ u, Below (w.heap.size + 1) (w.alloc (.cells #[.slice An N cn, .slice (some ⟨b1, off, none⟩) M ce] 25 (0, 0))) u → Calls Try.prog 40 #[tyval An N cn (some ⟨b1, off, none⟩) M ce, .int .i64 a, .int .i64 fr] u fun e w' => e = .returned (.bool z) ∧ (w'.cell? ⟨w.heap.size, 0, none⟩ = some (.slice An N cn) ∧ w'.cell? ⟨w.heap.size, 1, none⟩ = some (.slice (some ⟨b1, off, none⟩) M ce) ∧ w'.cell? ⟨b1, off + k * 7 + 1, none⟩ = some (.int .i64 fr) ∧ w'.cell? ⟨b1, off + k * 7 + 2, none⟩ = some (.int .i64 to) ∧ Below (w.heap.size + 1) (w.alloc (.cells #[.slice An N cn, .slice (some ⟨b1, off, none⟩) M ce] 25 (0, 0))) w')) := Lib.hid fun u hu => by
        refine (HBA2.out u (HT.out.up (box_below hu))).mono ?_
        rintro e w' ⟨rfl, hb⟩
        exact ⟨rfl, HS.out w' (hu.trans (hb.mono (by have := hu.size; simpa using this)))⟩
      have HBB3 : Hid (∀ u, Below (w.heap.size + 1) (w.alloc (.cells #[.slice An N cn, .slice (some ⟨b1, off, none⟩) M ce] 25 (0, 0))) u → Calls Try.prog 40 #[tyval An N cn (some ⟨b1, off, none⟩) M ce, .int .i64 b, .int .i64 to] u fun e w' => e = .returned (.bool y) ∧ (w'.cell? ⟨w.heap.size, 0, none⟩ = some (.slice An N cn) ∧ w'.cell? ⟨w.heap.size, 1, none⟩ = some (.slice (some ⟨b1, off, none⟩) M ce) ∧ w'.cell? ⟨b1, off + k * 7 + 1, none⟩ = some (.int .i64 fr) ∧ w'.cell? ⟨b1, off + k * 7 + 2, none⟩ = some (.int .i64 to) ∧ Below (w.heap.size + 1) (w.alloc (.cells #[.slice An N cn, .slice (some ⟨b1, off, none⟩) M ce] 25 (0, 0))) w')) := Lib.hid fun u hu => by
        refine (HBB2.out u (HT.out.up (box_below hu))).mono ?_
        rintro e w' ⟨rfl, hb⟩
        exact ⟨rfl, HS.out w' (hu.trans (hb.mono (by have := hu.size; simpa using this)))⟩
      clear HBA2 HBB2 hcell
      go_enter Try.func26, Try.ntmps26
      go_wp2_with fail
      refine (HG.out _ (HT.out.up ((Below.refl _ _).alloc (Nat.le_refl _) _))).mono ?_
      rintro e w1 ⟨rfl, hb1⟩
      have hb1' := below_one' hb1
      obtain ⟨c0, c1⟩ := box_cell hb1'
      have HB1 := Lib.hid hb1'
      clear hb1 hb1'
      go_wp2_with fail
      refine (HI.out _).mono ?_
      rintro e w2 ⟨rfl, rfl⟩
      go_wp2_with fail
      have HS1 := Lib.hid (HS.out _ (Below.drew HB1.out))
      clear c0 c1
      cases z
      case false =>
        refine wp_region_held_drew (S := (fun u => u.cell? ⟨w.heap.size, 0, none⟩ = some (.slice An N cn) ∧ u.cell? ⟨w.heap.size, 1, none⟩ = some (.slice (some ⟨b1, off, none⟩) M ce) ∧ u.cell? ⟨b1, off + k * 7 + 1, none⟩ = some (.int .i64 fr) ∧ u.cell? ⟨b1, off + k * 7 + 2, none⟩ = some (.int .i64 to) ∧ Below (w.heap.size + 1) (w.alloc (.cells #[.slice An N cn, .slice (some ⟨b1, off, none⟩) M ce] 25 (0, 0))) u)) (by kernel_rfl) HS1.out (fun hHeld => ?_)
        refine wpAnyH_take (i := 0) (v := ?_) rfl (by kernel_rfl) (by kernel_rfl) (by kernel_rfl) (fun _ _ _ h => h) (Or.inl ⟨by rfl, ?_⟩) (by assumption) ?_
        rotate_left 1
        · intro w hSw
          try dsimp only at hSw
          go_simp
          with_reducible rfl
        simp only [Act.put, List.getElem_toArray, List.getElem_cons_succ, List.getElem_cons_zero, List.setIfInBounds_toArray, List.set_cons_zero, List.set_cons_succ]
        refine wpAnyH_take (i := 1) (v := ?_) rfl (by kernel_rfl) (by kernel_rfl) (by kernel_rfl) (fun _ _ _ h => h) (Or.inl ⟨by rfl, ?_⟩) (by assumption) ?_
        rotate_left 1
        · intro w hSw
          try dsimp only at hSw
          go_simp
          with_reducible rfl
        simp only [Act.put, List.getElem_toArray, List.getElem_cons_succ, List.getElem_cons_zero, List.setIfInBounds_toArray, List.set_cons_zero, List.set_cons_succ]
        refine wpAnyH_take (i := 2) (v := ?_) rfl (by kernel_rfl) (by kernel_rfl) (by kernel_rfl) (fun _ _ _ h => h) (Or.inl ⟨by rfl, ?_⟩) (by assumption) ?_
        rotate_left 1
        · intro w hSw
          try dsimp only at hSw
          go_simp
          with_reducible rfl
        simp only [Act.put, List.getElem_toArray, List.getElem_cons_succ, List.getElem_cons_zero, List.setIfInBounds_toArray, List.set_cons_zero, List.set_cons_succ]
        refine wpAnyH_take (i := 3) (v := ?_) rfl (by kernel_rfl) (by kernel_rfl) (by kernel_rfl) (fun _ _ _ h => h) (Or.inl ⟨by rfl, ?_⟩) (by assumption) ?_
        rotate_left 1
        · intro w hSw
          try dsimp only at hSw
          go_simp
          with_reducible rfl
        simp only [Act.put, List.getElem_toArray, List.getElem_cons_succ, List.getElem_cons_zero, List.setIfInBounds_toArray, List.set_cons_zero, List.set_cons_succ]
        refine wpAnyH_take (i := 4) (v := ?_) rfl (by kernel_rfl) (by kernel_rfl) (by kernel_rfl) (fun _ _ _ h => h) (Or.inl ⟨by rfl, ?_⟩) (by assumption) ?_
        rotate_left 1
        · intro w hSw
          try dsimp only at hSw
          go_simp
          with_reducible rfl
        simp only [Act.put, List.getElem_toArray, List.getElem_cons_succ, List.getElem_cons_zero, List.setIfInBounds_toArray, List.set_cons_zero, List.set_cons_succ]
        refine wpAnyH_take (i := 5) (v := ?_) rfl (by kernel_rfl) (by kernel_rfl) (by kernel_rfl) (fun _ _ _ h => h) (Or.inl ⟨by rfl, ?_⟩) (by assumption) ?_
        rotate_left 1
        · intro w hSw
          try dsimp only at hSw
          go_simp
          with_reducible rfl
        simp only [Act.put, List.getElem_toArray, List.getElem_cons_succ, List.getElem_cons_zero, List.setIfInBounds_toArray, List.set_cons_zero, List.set_cons_succ]
        refine wpAnyH_take (i := 6) (v := ?_) rfl (by kernel_rfl) (by kernel_rfl) (by kernel_rfl) (fun _ _ _ h => h) (Or.inl ⟨by rfl, ?_⟩) (by assumption) ?_
        rotate_left 1
        · intro w hSw
          try dsimp only at hSw
          go_simp
          with_reducible rfl
        simp only [Act.put, List.getElem_toArray, List.getElem_cons_succ, List.getElem_cons_zero, List.setIfInBounds_toArray, List.set_cons_zero, List.set_cons_succ]
        refine wpAnyH_take (i := 7) (v := ?_) rfl (by kernel_rfl) (by kernel_rfl) (by kernel_rfl) (fun _ _ _ h => h) (Or.inl ⟨by rfl, ?_⟩) (by assumption) ?_
        rotate_left 1
        · intro w hSw
          try dsimp only at hSw
          go_simp
          with_reducible rfl
        simp only [Act.put, List.getElem_toArray, List.getElem_cons_succ, List.getElem_cons_zero, List.setIfInBounds_toArray, List.set_cons_zero, List.set_cons_succ]
        refine wpAnyH_ready (rs := [8]) (by kernel_rfl) (by simp) (AllReadyH.cons rfl (fun K hK => ?_) AllReadyH.nil)
        go_simp
        go_wp2_with (go_at_call 40; with_reducible refine (HBA3.out _ HS1.out.2.2.2.2).mono ?_; rintro e w3 ⟨rfl, hs3⟩)
        refine hK.out _ _ hs3 (fun hHeld => ?_)
        clear hK K
        try simp only [Act.put, List.getElem_toArray, List.getElem_cons_succ, List.getElem_cons_zero, List.setIfInBounds_toArray, List.set_cons_zero, List.set_cons_succ]
        refine wpAnyH_take (i := 9) (v := ?_) rfl (by kernel_rfl) (by kernel_rfl) (by kernel_rfl) (fun _ _ _ h => h) (Or.inl ⟨by rfl, ?_⟩) (by assumption) ?_
        rotate_left 1
        · intro w hSw
          try dsimp only at hSw
          go_simp
          with_reducible rfl
        simp only [Act.put, List.getElem_toArray, List.getElem_cons_succ, List.getElem_cons_zero, List.setIfInBounds_toArray, List.set_cons_zero, List.set_cons_succ]
        refine wpAnyH_take (i := 10) (v := undef) rfl (by kernel_rfl) (by kernel_rfl) (by kernel_rfl) (fun _ _ _ h => h) (Or.inr ⟨by rfl, rfl⟩) (by assumption) ?_
        simp only [Act.put, List.getElem_toArray, List.getElem_cons_succ, List.getElem_cons_zero, List.setIfInBounds_toArray, List.set_cons_zero, List.set_cons_succ]
        refine wpAnyH_take (i := 11) (v := undef) rfl (by kernel_rfl) (by kernel_rfl) (by kernel_rfl) (fun _ _ _ h => h) (Or.inr ⟨by rfl, rfl⟩) (by assumption) ?_
        simp only [Act.put, List.getElem_toArray, List.getElem_cons_succ, List.getElem_cons_zero, List.setIfInBounds_toArray, List.set_cons_zero, List.set_cons_succ]
        refine wpAnyH_take (i := 12) (v := undef) rfl (by kernel_rfl) (by kernel_rfl) (by kernel_rfl) (fun _ _ _ h => h) (Or.inr ⟨by rfl, rfl⟩) (by assumption) ?_
        simp only [Act.put, List.getElem_toArray, List.getElem_cons_succ, List.getElem_cons_zero, List.setIfInBounds_toArray, List.set_cons_zero, List.set_cons_succ]
        refine wpAnyH_take (i := 13) (v := undef) rfl (by kernel_rfl) (by kernel_rfl) (by kernel_rfl) (fun _ _ _ h => h) (Or.inr ⟨by rfl, rfl⟩) (by assumption) ?_
        simp only [Act.put, List.getElem_toArray, List.getElem_cons_succ, List.getElem_cons_zero, List.setIfInBounds_toArray, List.set_cons_zero, List.set_cons_succ]
        refine wpAnyH_take (i := 14) (v := undef) rfl (by kernel_rfl) (by kernel_rfl) (by kernel_rfl) (fun _ _ _ h => h) (Or.inr ⟨by rfl, rfl⟩) (by assumption) ?_
        simp only [Act.put, List.getElem_toArray, List.getElem_cons_succ, List.getElem_cons_zero, List.setIfInBounds_toArray, List.set_cons_zero, List.set_cons_succ]
        refine wpAnyH_take (i := 15) (v := undef) rfl (by kernel_rfl) (by kernel_rfl) (by kernel_rfl) (fun _ _ _ h => h) (Or.inr ⟨by rfl, rfl⟩) (by assumption) ?_
        simp only [Act.put, List.getElem_toArray, List.getElem_cons_succ, List.getElem_cons_zero, List.setIfInBounds_toArray, List.set_cons_zero, List.set_cons_succ]
        refine wpAnyH_take (i := 16) (v := undef) rfl (by kernel_rfl) (by kernel_rfl) (by kernel_rfl) (fun _ _ _ h => h) (Or.inr ⟨by rfl, rfl⟩) (by assumption) ?_
        simp only [Act.put, List.getElem_toArray, List.getElem_cons_succ, List.getElem_cons_zero, List.setIfInBounds_toArray, List.set_cons_zero, List.set_cons_succ]
        refine wpAnyH_take (i := 17) (v := undef) rfl (by kernel_rfl) (by kernel_rfl) (by kernel_rfl) (fun _ _ _ h => h) (Or.inr ⟨by rfl, rfl⟩) (by assumption) ?_
        simp only [Act.put, List.getElem_toArray, List.getElem_cons_succ, List.getElem_cons_zero, List.setIfInBounds_toArray, List.set_cons_zero, List.set_cons_succ]
        refine wpAnyH_take (i := 18) (v := undef) rfl (by kernel_rfl) (by kernel_rfl) (by kernel_rfl) (fun _ _ _ h => h) (Or.inr ⟨by rfl, rfl⟩) (by assumption) ?_
        simp only [Act.put, List.getElem_toArray, List.getElem_cons_succ, List.getElem_cons_zero, List.setIfInBounds_toArray, List.set_cons_zero, List.set_cons_succ]
        refine wpAnyH_take (i := 19) (v := ?_) rfl (by kernel_rfl) (by kernel_rfl) (by kernel_rfl) (fun _ _ _ h => h) (Or.inl ⟨by rfl, ?_⟩) (by assumption) ?_
        rotate_left 1
        · intro w hSw
          try dsimp only at hSw
          go_simp
          with_reducible rfl
        simp only [Act.put, List.getElem_toArray, List.getElem_cons_succ, List.getElem_cons_zero, List.setIfInBounds_toArray, List.set_cons_zero, List.set_cons_succ]
        refine wpAnyH_take (i := 20) (v := ?_) rfl (by kernel_rfl) (by kernel_rfl) (by kernel_rfl) (fun _ _ _ h => h) (Or.inl ⟨by rfl, ?_⟩) (by assumption) ?_
        rotate_left 1
        · intro w hSw
          try dsimp only at hSw
          go_simp
          with_reducible rfl
        simp only [Act.put, List.getElem_toArray, List.getElem_cons_succ, List.getElem_cons_zero, List.setIfInBounds_toArray, List.set_cons_zero, List.set_cons_succ]
        refine wpAnyH_done (by kernel_rfl) ?_ _
        have HB5 := Lib.hid (box_below hs3.2.2.2.2)
        clear hs3 hHeld
        go_wp2_with fail
        go_ret
        exact ⟨ret_bool (by rw [HX3.out]; rfl), HB5.out⟩
      case true =>
        go_region_held3 (fun u => u.cell? ⟨w.heap.size, 0, none⟩ = some (.slice An N cn) ∧ u.cell? ⟨w.heap.size, 1, none⟩ = some (.slice (some ⟨b1, off, none⟩) M ce) ∧ u.cell? ⟨b1, off + k * 7 + 1, none⟩ = some (.int .i64 fr) ∧ u.cell? ⟨b1, off + k * 7 + 2, none⟩ = some (.int .i64 to) ∧ Below (w.heap.size + 1) (w.alloc (.cells #[.slice An N cn, .slice (some ⟨b1, off, none⟩) M ce] 25 (0, 0))) u)
          (first | assumption | exact HS1.out)
          ((first
            | (with_reducible refine (HBA3.out _ (by first | assumption | exact HS1.out.2.2.2.2)).mono ?_; rintro e w3 ⟨rfl, hs3⟩; have hq3 := hs3.2.2.2.2)
            | (with_reducible refine (HBB3.out _ (by first | assumption | exact HS1.out.2.2.2.2)).mono ?_; rintro e w4 ⟨rfl, hs4⟩; have hq4 := hs4.2.2.2.2)))
        all_goals
          have HB5 := Lib.hid (box_below (by assumption))
          go_wp2_with fail
          go_ret
          exact ⟨ret_bool (by rw [HX3.out]; rfl), HB5.out⟩
  · have HX2 : Hid (R = false) := Lib.hid (by rw [HX.out, decide_eq_false hg]; rfl)
    generalize givenE t a b = g at HG hg
    have t3 : ((g : Int) != 0) = true := by simp; omega
    clear HX hg
    go_enter Try.func26, Try.ntmps26
    go_wp2_with fail
    refine (HG.out _ (HT.out.up ((Below.refl _ _).alloc (Nat.le_refl _) _))).mono ?_
    rintro e w1 ⟨rfl, hb1⟩
    have HB1 := Lib.hid (box_below (below_one' hb1))
    clear hb1
    go_wp2_with fail
    go_ret
    exact ⟨ret_bool HX2.out.symm, HB1.out⟩

end Go.Proofs.Ytgpcaofikmdpjaa
