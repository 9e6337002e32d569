/-
  Shuffle of the reference: a permutation.
-/
import Derived.Test.YtiafmhdicgmfaaaGChkP
namespace Go.Proofs.Ytiafmhdicgmfaaa
open Go.RowKit

set_option maxRecDepth 100000 in
set_option maxHeartbeats 4000000 in
theorem shuf_any (n : Nat) (codes : List Nat) (A : Option Addr) (c : Nat) (w : World) (hn : n ≤ 1000) (hb : ∀ i, codes.getD i 0 < 256) (hl : codes.length ≤ maxLen) (hA : Reads EBy w w.heap.size A codes) :
    Calls Try.prog 36 #[.int .i64 (n : Int), .slice A codes.length c] w fun e w' => (∃ v s, e = .returned v ∧ OwnI w' w.heap.size v s ∧ PermN s n) ∧ Below w.heap.size w w' := by
  have HA := Lib.hid hA
  have HB := Lib.hid hb
  unfold maxLen at hl
  clear hA hb
  go_enter Try.func36, Try.ntmps36
  go_wp2_with fail
  refine (numbersR_any 0 n w (Int.le_refl _) (by omega) hn).mono ?_
  rintro e w1 ⟨v, rfl, ho, hb1⟩
  obtain ⟨ao, cap, e⟩ := OwnE.slice ho
  rw [numS_len] at e
  subst e
  have HO := Lib.hid ho
  have HB1 := Lib.hid hb1
  clear ho hb1
  go_wp2_with fail
  go_loopw [6] (fun vi wr => ∃ (i : Nat) (s : List Int), i ≤ n ∧ vi = .int .i64 i ∧ OwnI wr w.heap.size (.slice ao n cap) s ∧ PermN s n ∧ Below w.heap.size w wr) (fun vi _ => n - (intOf vi).toNat)
  case atStart => exact ⟨0, _, Nat.zero_le _, rfl, HO.out, List.Perm.refl _, HB1.out⟩
  case round =>
    clear HO HB1
    obtain ⟨i, s, hi, rfl, hown, hp, hbel⟩ := hrel
    have HP := Lib.hid hp
    have HG := Lib.hid hbel
    by_cases h1 : i < n
    · by_cases h2 : i < codes.length
      · obtain ⟨g, cg, e, hg1, hg2⟩ := OwnE.pos hown (by rw [hp.len]; omega)
        have hln := hp.len
        simp only [Value.slice.injEq] at e
        obtain ⟨rfl, e1, e2⟩ := e
        clear e1 e2
        obtain ⟨b, off, rfl, hbb, hcx⟩ := byte_at (Reads.below HA.out hbel) h2
        have hx := HB.out i
        generalize codes.getD i 0 = x at *
        have i0 : (0 : Int) ≤ (i : Int) := by omega
        have i1 : (i : Int) < (codes.length : Int) := by omega
        have i2 : ((i : Int)).toNat = i := by omega
        have i3 : (i : Int) < (n : Int) := by omega
        have hne : ¬ (n : Int) - (i : Int) = 0 := by omega
        have hm1 : Int.tmod (x : Int) ((n : Int) - (i : Int)) = (x : Int) % ((n : Int) - (i : Int)) := Int.tmod_eq_emod_of_nonneg (by omega)
        have m1 := Int.emod_nonneg (x : Int) hne
        have m2 := Int.emod_lt_of_pos (x : Int) (show (0 : Int) < (n : Int) - (i : Int) by omega)
        obtain ⟨r, hr⟩ : ∃ r : Nat, (x : Int) % ((n : Int) - (i : Int)) = (r : Int) := ⟨((x : Int) % ((n : Int) - (i : Int))).toNat, by omega⟩
        rw [hr] at hm1 m1 m2
        obtain ⟨k, hk⟩ : ∃ k : Nat, k = i + r := ⟨_, rfl⟩
        have hkr : (i : Int) + (r : Int) = (k : Int) := by omega
        have hkn : k < n := by omega
        have HW2 := Lib.hid (show wrap64 ((i : Int) + (x : Int) % ((n : Int) - (i : Int))) = (k : Int) by rw [hr, hkr]; exact IntWalk.wrap64_in _ (by omega))
        have HPN := Lib.hid (perm_swp hp h1 hkn)
        have ci := OwnI.cell hln.symm hown h1
        have ck := OwnI.cell hln.symm hown hkn
        have fi := OwnI.free hln.symm hown i
        have fk := OwnI.free hln.symm hown k
        have hs1 := OwnI.set hln.symm hown i (s.getD k 0)
        have hs2 := OwnI.set (by rw [List.length_set]; exact hln.symm) hs1.1 k (s.getD i 0)
        have HC1 := Lib.hid (show (wr.setCell ⟨g, i, none⟩ (.int .i64 (s.getD k 0))).cell? ⟨g, k, none⟩ = some (.int .i64 ((s.set i (s.getD k 0)).getD k 0)) ∧ (wr.setCell ⟨g, i, none⟩ (.int .i64 (s.getD k 0))).frozen? ⟨g, k, none⟩ = false from ⟨OwnI.cell (by rw [List.length_set]; exact hln.symm) hs1.1 hkn, OwnI.free (by rw [List.length_set]; exact hln.symm) hs1.1 k⟩)
        have HS := Lib.hid (show OwnI ((wr.setCell ⟨g, i, none⟩ (.int .i64 (s.getD k 0))).setCell ⟨g, k, none⟩ (.int .i64 (s.getD i 0))).drew w.heap.size (.slice (some ⟨g, 0, none⟩) n cap) ((s.set i (s.getD k 0)).set k (s.getD i 0)) from OwnE.below hs2.1 (below_d _) (Nat.le_refl _))
        have k0 : (0 : Int) ≤ (k : Int) := by omega
        have k1 : (k : Int) < (n : Int) := by omega
        have k2 : ((k : Int)).toNat = k := by omega
        have hw1 : IntKind.i64.wrap (x : Int) = (x : Int) := IntWalk.i64_in _ (by omega)
        clear hk hown hp hbel hs1 hs2 hln m1 m2 HP hm1
        generalize s.getD k 0 = y at *
        generalize s.getD i 0 = z at *
        go_wp2_with fail
        clear hr hkr
        refine wp_region_noPanic ?_
        refine wp_region_held_drew (S := fun _ => True) (by kernel_rfl) trivial (fun hHeld => ?_)
        refine wpAnyH_take (i := 0) (v := ?_) (op_at (r := _) rfl) (by kernel_rfl) (by kernel_rfl) (by kernel_rfl) (fun _ _ _ h => h) (Or.inl ⟨by rfl, ?_⟩) trivial ?_
        rotate_left
        · intro W2 hSw
          obtain _ := hSw
          go_simp
          try with_reducible rfl
        try simp only [Act.put, List.setIfInBounds_toArray, List.set_cons_zero, List.set_cons_succ]
        refine wpAnyH_take (i := 1) (v := ?_) (op_at (r := _) rfl) (by kernel_rfl) (by kernel_rfl) (by kernel_rfl) (fun _ _ _ h => h) (Or.inl ⟨by rfl, ?_⟩) trivial ?_
        rotate_left
        · intro W2 hSw
          obtain _ := hSw
          go_simp
          try with_reducible rfl
        try simp only [Act.put, List.setIfInBounds_toArray, List.set_cons_zero, List.set_cons_succ]
        refine wpAnyH_take (i := 2) (v := ?_) (op_at (r := _) rfl) (by kernel_rfl) (by kernel_rfl) (by kernel_rfl) (fun _ _ _ h => h) (Or.inl ⟨by rfl, ?_⟩) trivial ?_
        rotate_left
        · intro W2 hSw
          obtain _ := hSw
          go_simp
          try with_reducible rfl
        try simp only [Act.put, List.setIfInBounds_toArray, List.set_cons_zero, List.set_cons_succ]
        refine wpAnyH_take (i := 3) (v := ?_) (op_at (r := _) rfl) (by kernel_rfl) (by kernel_rfl) (by kernel_rfl) (fun _ _ _ h => h) (Or.inl ⟨by rfl, ?_⟩) trivial ?_
        rotate_left
        · intro W2 hSw
          obtain _ := hSw
          go_simp
          try with_reducible rfl
        try simp only [Act.put, List.setIfInBounds_toArray, List.set_cons_zero, List.set_cons_succ]
        refine wpAnyH_take (i := 4) (v := ?_) (op_at (r := _) rfl) (by kernel_rfl) (by kernel_rfl) (by kernel_rfl) (fun _ _ _ h => h) (Or.inl ⟨by rfl, ?_⟩) trivial ?_
        rotate_left
        · intro W2 hSw
          obtain _ := hSw
          go_simp
          try with_reducible rfl
        try simp only [Act.put, List.setIfInBounds_toArray, List.set_cons_zero, List.set_cons_succ]
        refine wpAnyH_take (i := 5) (v := ?_) (op_at (r := _) rfl) (by kernel_rfl) (by kernel_rfl) (by kernel_rfl) (fun _ _ _ h => h) (Or.inl ⟨by rfl, ?_⟩) trivial ?_
        rotate_left
        · intro W2 hSw
          obtain _ := hSw
          go_simp
          try with_reducible rfl
        try simp only [Act.put, List.setIfInBounds_toArray, List.set_cons_zero, List.set_cons_succ]
        refine wpAnyH_take (i := 6) (v := ?_) (op_at (r := _) rfl) (by kernel_rfl) (by kernel_rfl) (by kernel_rfl) (fun _ _ _ h => h) (Or.inl ⟨by rfl, ?_⟩) trivial ?_
        rotate_left
        · intro W2 hSw
          obtain _ := hSw
          go_simp
          try with_reducible rfl
        try simp only [Act.put, List.setIfInBounds_toArray, List.set_cons_zero, List.set_cons_succ]
        refine wpAnyH_take (i := 8) (v := ?_) (op_at (r := _) rfl) (by kernel_rfl) (by kernel_rfl) (by kernel_rfl) (fun _ _ _ h => h) (Or.inl ⟨by rfl, ?_⟩) trivial ?_
        rotate_left
        · intro W2 hSw
          obtain _ := hSw
          go_simp
          try with_reducible rfl
        try simp only [Act.put, List.setIfInBounds_toArray, List.set_cons_zero, List.set_cons_succ]
        refine wpAnyH_take (i := 9) (v := ?_) (op_at (r := _) rfl) (by kernel_rfl) (by kernel_rfl) (by kernel_rfl) (fun _ _ _ h => h) (Or.inl ⟨by rfl, ?_⟩) trivial ?_
        rotate_left
        · intro W2 hSw
          obtain _ := hSw
          go_simp
          try with_reducible rfl
        try simp only [Act.put, List.setIfInBounds_toArray, List.set_cons_zero, List.set_cons_succ]
        refine wpAnyH_take (i := 10) (v := ?_) (op_at (r := _) rfl) (by kernel_rfl) (by kernel_rfl) (by kernel_rfl) (fun _ _ _ h => h) (Or.inl ⟨by rfl, ?_⟩) trivial ?_
        rotate_left
        · intro W2 hSw
          obtain _ := hSw
          go_simp
          try with_reducible rfl
        try simp only [Act.put, List.setIfInBounds_toArray, List.set_cons_zero, List.set_cons_succ]
        refine wpAnyH_ready (rs := [7, 11]) (by kernel_rfl) (by simp) ?_
        refine AllReadyH.cons (op_at (r := _) rfl) (fun K hK => ?_) (AllReadyH.cons (op_at (r := _) rfl) (fun K hK => ?_) AllReadyH.nil)
        · go_simp
          refine hK.out _ _ trivial (fun hHeld => ?_)
          clear hK K
          try simp only [Act.put, List.setIfInBounds_toArray, List.set_cons_zero, List.set_cons_succ]
          refine wpAnyH_ready (rs := [11]) (by kernel_rfl) (by simp) ?_
          refine AllReadyH.cons (op_at (r := _) rfl) (fun K hK => ?_) AllReadyH.nil
          go_simp
          refine hK.out _ _ trivial (fun hHeld => ?_)
          clear hK K
          try simp only [Act.put, List.setIfInBounds_toArray, List.set_cons_zero, List.set_cons_succ]
          refine wpAnyH_take (i := 12) (v := ?_) (op_at (r := _) rfl) (by kernel_rfl) (by kernel_rfl) (by kernel_rfl) (fun _ _ _ h => h) (Or.inl ⟨by rfl, ?_⟩) trivial ?_
          rotate_left
          · intro W2 hSw
            obtain _ := hSw
            go_simp
            try with_reducible rfl
          try simp only [Act.put, List.setIfInBounds_toArray, List.set_cons_zero, List.set_cons_succ]
          refine wpAnyH_ready (rs := [13]) (by kernel_rfl) (by simp) ?_
          refine AllReadyH.cons (op_at (r := _) rfl) (fun K hK => ?_) AllReadyH.nil
          go_simp
          refine hK.out _ _ trivial (fun hHeld => ?_)
          clear hK K
          try simp only [Act.put, List.setIfInBounds_toArray, List.set_cons_zero, List.set_cons_succ]
          obtain ⟨cc1, ff1⟩ := HC1.out
          refine wpAnyH_take (i := 14) (v := ?_) (op_at (r := _) rfl) (by kernel_rfl) (by kernel_rfl) (by kernel_rfl) (fun _ _ _ h => h) (Or.inl ⟨by rfl, ?_⟩) trivial ?_
          rotate_left
          · intro W2 hSw
            obtain _ := hSw
            go_simp
            try with_reducible rfl
          try simp only [Act.put, List.setIfInBounds_toArray, List.set_cons_zero, List.set_cons_succ]
          refine wpAnyH_ready (rs := [15]) (by kernel_rfl) (by simp) ?_
          refine AllReadyH.cons (op_at (r := _) rfl) (fun K hK => ?_) AllReadyH.nil
          go_simp
          refine hK.out _ _ trivial (fun hHeld => ?_)
          clear hK K
          try simp only [Act.put, List.setIfInBounds_toArray, List.set_cons_zero, List.set_cons_succ]
          refine wpAnyH_done (by kernel_rfl) ?_ _
          refine NoPanic.normal ?_
          go_wp2_with fail
          go_roundw
          case rel => exact ⟨i + 1, _, by omega, by go_num, HS.out, HPN.out, ((HG.out.setCell (p := ⟨g, i, none⟩) hg1 _).setCell (p := ⟨g, k, none⟩) hg1 _).drew⟩
          case measure => simp [intOf]; omega
        · go_simp
          refine hK.out _ _ trivial (fun hHeld => ?_)
          clear hK K
          try simp only [Act.put, List.setIfInBounds_toArray, List.set_cons_zero, List.set_cons_succ]
          refine wpAnyH_ready (rs := [7]) (by kernel_rfl) (by simp) ?_
          refine AllReadyH.cons (op_at (r := _) rfl) (fun K hK => ?_) AllReadyH.nil
          go_simp
          refine hK.out _ _ trivial (fun hHeld => ?_)
          clear hK K
          try simp only [Act.put, List.setIfInBounds_toArray, List.set_cons_zero, List.set_cons_succ]
          refine wpAnyH_take (i := 12) (v := ?_) (op_at (r := _) rfl) (by kernel_rfl) (by kernel_rfl) (by kernel_rfl) (fun _ _ _ h => h) (Or.inl ⟨by rfl, ?_⟩) trivial ?_
          rotate_left
          · intro W2 hSw
            obtain _ := hSw
            go_simp
            try with_reducible rfl
          try simp only [Act.put, List.setIfInBounds_toArray, List.set_cons_zero, List.set_cons_succ]
          refine wpAnyH_ready (rs := [13]) (by kernel_rfl) (by simp) ?_
          refine AllReadyH.cons (op_at (r := _) rfl) (fun K hK => ?_) AllReadyH.nil
          go_simp
          refine hK.out _ _ trivial (fun hHeld => ?_)
          clear hK K
          try simp only [Act.put, List.setIfInBounds_toArray, List.set_cons_zero, List.set_cons_succ]
          obtain ⟨cc1, ff1⟩ := HC1.out
          refine wpAnyH_take (i := 14) (v := ?_) (op_at (r := _) rfl) (by kernel_rfl) (by kernel_rfl) (by kernel_rfl) (fun _ _ _ h => h) (Or.inl ⟨by rfl, ?_⟩) trivial ?_
          rotate_left
          · intro W2 hSw
            obtain _ := hSw
            go_simp
            try with_reducible rfl
          try simp only [Act.put, List.setIfInBounds_toArray, List.set_cons_zero, List.set_cons_succ]
          refine wpAnyH_ready (rs := [15]) (by kernel_rfl) (by simp) ?_
          refine AllReadyH.cons (op_at (r := _) rfl) (fun K hK => ?_) AllReadyH.nil
          go_simp
          refine hK.out _ _ trivial (fun hHeld => ?_)
          clear hK K
          try simp only [Act.put, List.setIfInBounds_toArray, List.set_cons_zero, List.set_cons_succ]
          refine wpAnyH_done (by kernel_rfl) ?_ _
          refine NoPanic.normal ?_
          go_wp2_with fail
          go_roundw
          case rel => exact ⟨i + 1, _, by omega, by go_num, HS.out, HPN.out, ((HG.out.setCell (p := ⟨g, i, none⟩) hg1 _).setCell (p := ⟨g, k, none⟩) hg1 _).drew⟩
          case measure => simp [intOf]; omega
      · go_wp2_with fail
        go_ret
        exact ⟨⟨_, _, rfl, hown, HP.out⟩, HG.out⟩
    · go_wp2_with fail
      go_ret
      exact ⟨⟨_, _, rfl, hown, HP.out⟩, HG.out⟩

end Go.Proofs.Ytiafmhdicgmfaaa
