/-
  Contracts of the reference's Merge, of slices.Clone and slices.Equal at ints, of the reference's SameInts.
-/
import Derived.Test.YtdflgcfjfgojkaaLists
namespace Go.Proofs.Ytdflgcfjfgojkaa
open Go.RowKit

theorem Own.cast {w : World} {base : Nat} {v : Value} {ys zs : List Nat} (e : ys = zs) (h : Own w base v ys) : Own w base v zs := e ▸ h
theorem take_map_snoc (f : Nat → Nat) (ys : List Nat) {j : Nat} (h : j < ys.length) : (ys.map f).take (j + 1) = (ys.map f).take j ++ [f (at_ ys j)] := by
  rw [List.take_succ_eq_append_getElem (by simpa using h), List.getElem_map, at_get h]

set_option maxHeartbeats 2000000 in
theorem refMerge_any (ys : List Nat) (A : Option Addr) (c i k : Nat) (w : World) (hi : i < ys.length) (hk : k < ys.length) (hl : ys.length ≤ 1000) (hT : Ints w w.heap.size A (toI ys)) :
    Calls Try.prog 39 #[.slice A ys.length c, .int .i64 i, .int .i64 k] w fun e w' =>
      ∃ v, e = .returned v ∧ Own w' w.heap.size v (mergeS ys i k) ∧ Below w.heap.size w w' := by
  obtain ⟨b, off, rfl, hb, hc⟩ := hT.atN hi
  have ci := hc i hi
  have ck := hc k hk
  have HC := Lib.hid (fun w1 (hb1 : Below w.heap.size w w1) j (hj : j < ys.length) => (hb1.cell (p := ⟨b, off + j, none⟩) hb).trans (hc j hj))
  have hi0 : (0 : Int) ≤ (i : Int) := by omega
  have hi1 : (i : Int) < (ys.length : Int) := by omega
  have hi2 : ((i : Int)).toNat = i := by omega
  have hk0 : (0 : Int) ≤ (k : Int) := by omega
  have hk1 : (k : Int) < (ys.length : Int) := by omega
  have hk2 : ((k : Int)).toNat = k := by omega
  clear hT hc
  obtain ⟨lo, hg, H, hle, hlo, hhi⟩ : ∃ lo hg, mergeS ys i k = ys.map (toLow lo hg) ∧ lo ≤ hg ∧
      (if at_ ys k < at_ ys i then at_ ys k else at_ ys i) = lo ∧ (if at_ ys i < at_ ys k then at_ ys k else at_ ys i) = hg := by
    rcases Nat.lt_trichotomy (at_ ys i) (at_ ys k) with h | h | h
    · exact ⟨_, _, mergeS_lt h, by omega, if_neg (by omega), if_pos h⟩
    · refine ⟨at_ ys i, at_ ys i, ?_, Nat.le_refl _, if_neg (by omega), if_neg (by omega)⟩
      rw [mergeS_eq h]
      have : toLow (at_ ys i) (at_ ys i) = id := by
        funext x
        unfold toLow
        split
        · rename_i e; exact e.symm
        · rfl
      rw [this, List.map_id]
    · exact ⟨_, _, mergeS_gt h, by omega, if_pos h, if_neg (by omega)⟩
  have H1 := Lib.hid H
  clear H
  rcases Nat.lt_trichotomy (at_ ys i) (at_ ys k) with h | h | h
  case inr.inl =>
    rw [if_neg (by omega)] at hlo hhi
    rw [← h] at ck
    have e : lo = hg := by omega
    subst e
    rw [hlo] at ci ck
    clear hlo hhi h
    go_enter Try.func39, Try.ntmps39
    go_wp2_with fail
    go_quiet (fail)
    go_wp2_with fail
    go_loopw [9, 10, 11] (fun v x _ wr => ∃ j : Nat, j ≤ ys.length ∧ x = .int .i64 j ∧ Own wr w.heap.size v ((ys.map (toLow lo lo)).take j) ∧ Below w.heap.size w wr) (fun _ x _ _ => ys.length - (intOf x).toNat)
    case atStart => exact ⟨0, Nat.zero_le _, rfl, World.ownsRow_nil _ _ _ _, below_draws (Below.refl _ _) _⟩
    case round =>
      obtain ⟨j, hj, rfl, hown, hbel⟩ := hrel
      obtain ⟨ao, cap, rfl⟩ := slice_of hown
      have HW := Lib.hid hown
      have HG := Lib.hid hbel
      have hsz := hbel.size
      clear hown hbel ci ck
      by_cases hlt : j < ys.length
      · have cj := HC.out _ HG.out j hlt
        have H2 := Lib.hid (take_map_snoc (toLow lo lo) ys hlt)
        have hlen : ((ys.map (toLow lo lo)).take j).length ≤ 1000 := by simp; omega
        generalize at_ ys j = x at cj H2
        by_cases hx : x = lo
        · have t3 : ((x : Int) == (lo : Int)) = true := by simp; omega
          have H3 := Lib.hid (show toLow lo lo x = lo by unfold toLow; rw [if_pos hx])
          clear hx
          go_wp2_with (at_builtin; refine wpList_append_int rfl _ _ rfl w.heap.size _ ((ys.map (toLow lo lo)).take j) rfl (World.ownsRow.alloc HW.out _) ⟨wr.heap.size, 0, none⟩ 1 lo rfl ?qc1 ?qc2 ?qc3 ?_)
          case qc1 => simp
          case qc2 => omega
          case qc3 => simp; omega
          intro v' w1 hown1 hgr1 hb1
          have HW1 := Lib.hid hown1
          have HB1 := Lib.hid hb1
          clear hown1 hb1 hgr1
          go_wp2_with fail
          go_roundw
          case rel => exact ⟨j + 1, by omega, by go_num, by rw [H2.out, H3.out]; exact HW1.out, (HG.out.alloc (by omega) _).trans HB1.out⟩
          case measure => simp [intOf]; omega
        · have t3 : ((x : Int) == (lo : Int)) = false := by simp; omega
          have H3 := Lib.hid (show toLow lo lo x = x by unfold toLow; rw [if_neg hx])
          clear hx
          go_wp2_with (at_builtin; refine wpList_append_int rfl _ _ rfl w.heap.size _ ((ys.map (toLow lo lo)).take j) rfl (World.ownsRow.alloc HW.out _) ⟨wr.heap.size, 0, none⟩ 1 x rfl ?qc1 ?qc2 ?qc3 ?_)
          case qc1 => simp
          case qc2 => omega
          case qc3 => simp; omega
          intro v' w1 hown1 hgr1 hb1
          have HW1 := Lib.hid hown1
          have HB1 := Lib.hid hb1
          clear hown1 hb1 hgr1
          go_wp2_with fail
          go_roundw
          case rel => exact ⟨j + 1, by omega, by go_num, by rw [H2.out, H3.out]; exact HW1.out, (HG.out.alloc (by omega) _).trans HB1.out⟩
          case measure => simp [intOf]; omega
      · have H2 := Lib.hid (show ∀ f : Nat → Nat, (ys.map f).take j = ys.map f from fun f => List.take_of_length_le (by simp; omega))
        go_wp2
        go_ret
        exact ⟨_, rfl, by rw [H1.out]; exact Own.cast (H2.out _) HW.out, HG.out⟩
  case' inl =>
    rw [if_neg (by omega)] at hlo
    rw [if_pos h] at hhi
    rw [hlo] at ci
    rw [hhi] at ck
    have hlh : lo < hg := by omega
    clear hlo hhi h
  case' inr.inr =>
    rw [if_pos h] at hlo
    rw [if_neg (by omega)] at hhi
    rw [hhi] at ci
    rw [hlo] at ck
    have hlh : lo < hg := by omega
    clear hlo hhi h
  all_goals
    go_enter Try.func39, Try.ntmps39
    go_wp2_with fail
    go_quiet (fail)
    go_wp2_with fail
    go_loopw [9, 10, 11] (fun v x _ wr => ∃ j : Nat, j ≤ ys.length ∧ x = .int .i64 j ∧ Own wr w.heap.size v ((ys.map (toLow lo hg)).take j) ∧ Below w.heap.size w wr) (fun _ x _ _ => ys.length - (intOf x).toNat)
    case atStart => exact ⟨0, Nat.zero_le _, rfl, World.ownsRow_nil _ _ _ _, below_draws (Below.refl _ _) _⟩
    case round =>
      obtain ⟨j, hj, rfl, hown, hbel⟩ := hrel
      obtain ⟨ao, cap, rfl⟩ := slice_of hown
      have HW := Lib.hid hown
      have HG := Lib.hid hbel
      have hsz := hbel.size
      clear hown hbel ci ck
      by_cases hlt : j < ys.length
      · have cj := HC.out _ HG.out j hlt
        have H2 := Lib.hid (take_map_snoc (toLow lo hg) ys hlt)
        have hlen : ((ys.map (toLow lo hg)).take j).length ≤ 1000 := by simp; omega
        generalize at_ ys j = x at cj H2
        by_cases hx : x = hg
        · have t3 : ((x : Int) == (hg : Int)) = true := by simp; omega
          have H3 := Lib.hid (show toLow lo hg x = lo by unfold toLow; rw [if_pos hx])
          clear hx
          go_wp2_with (at_builtin; refine wpList_append_int rfl _ _ rfl w.heap.size _ ((ys.map (toLow lo hg)).take j) rfl (World.ownsRow.alloc HW.out _) ⟨wr.heap.size, 0, none⟩ 1 lo rfl ?qc1 ?qc2 ?qc3 ?_)
          case qc1 => simp
          case qc2 => omega
          case qc3 => simp; omega
          intro v' w1 hown1 hgr1 hb1
          have HW1 := Lib.hid hown1
          have HB1 := Lib.hid hb1
          clear hown1 hb1 hgr1
          go_wp2_with fail
          go_roundw
          case rel => exact ⟨j + 1, by omega, by go_num, by rw [H2.out, H3.out]; exact HW1.out, (HG.out.alloc (by omega) _).trans HB1.out⟩
          case measure => simp [intOf]; omega
        · have t3 : ((x : Int) == (hg : Int)) = false := by simp; omega
          have H3 := Lib.hid (show toLow lo hg x = x by unfold toLow; rw [if_neg hx])
          clear hx
          go_wp2_with (at_builtin; refine wpList_append_int rfl _ _ rfl w.heap.size _ ((ys.map (toLow lo hg)).take j) rfl (World.ownsRow.alloc HW.out _) ⟨wr.heap.size, 0, none⟩ 1 x rfl ?qc1 ?qc2 ?qc3 ?_)
          case qc1 => simp
          case qc2 => omega
          case qc3 => simp; omega
          intro v' w1 hown1 hgr1 hb1
          have HW1 := Lib.hid hown1
          have HB1 := Lib.hid hb1
          clear hown1 hb1 hgr1
          go_wp2_with fail
          go_roundw
          case rel => exact ⟨j + 1, by omega, by go_num, by rw [H2.out, H3.out]; exact HW1.out, (HG.out.alloc (by omega) _).trans HB1.out⟩
          case measure => simp [intOf]; omega
      · have H2 := Lib.hid (show ∀ f : Nat → Nat, (ys.map f).take j = ys.map f from fun f => List.take_of_length_le (by simp; omega))
        go_wp2
        go_ret
        exact ⟨_, rfl, by rw [H1.out]; exact Own.cast (H2.out _) HW.out, HG.out⟩

set_option maxHeartbeats 1000000 in
theorem equal_any (xs ys : List Int) (A A' : Option Addr) (c c' : Nat) (w : World) (hx : xs.length ≤ maxLen) (hA : Ints w w.heap.size A xs) (hB : Ints w w.heap.size A' ys) :
    Calls Try.prog 19 #[.slice A xs.length c, .slice A' ys.length c'] w fun e w' => e = .returned (.bool (decide (xs = ys))) ∧ Below w.heap.size w w' := by
  unfold maxLen at hx
  by_cases hl : xs.length = ys.length
  · have t : ((xs.length : Int) != (ys.length : Int)) = false := by simp; omega
    have HA := Lib.hid hA
    have HB := Lib.hid hB
    have HLN := Lib.hid hl
    have hyl : ys.length ≤ xs.length := by omega
    have hxl : xs.length ≤ ys.length := by omega
    clear hA hB hl
    go_enter Try.func19, Try.ntmps19
    go_wp2
    go_loopw [13] (fun i wr => ∃ k q : Nat, k ≤ xs.length ∧ i = .int .i64 k ∧ wr = w.drewN q ∧ ∀ j, j < k → xs.getD j 0 = ys.getD j 0) (fun i _ => xs.length - (intOf i).toNat)
    case atStart => exact ⟨0, 0, Nat.zero_le _, rfl, rfl, fun j hj => by omega⟩
    case round =>
      obtain ⟨k, q, hk, rfl, rfl, hs⟩ := hrel
      have HS := Lib.hid hs
      clear hs
      by_cases hlt : k < xs.length
      · have hlt' : k < ys.length := by omega
        obtain ⟨b, off, rfl, hb, hc⟩ := HA.out.at hlt
        obtain ⟨b', off', rfl, hb', hd⟩ := HB.out.at hlt'
        have ck := hc k hlt
        have dk := hd k hlt'
        clear hc hd
        have hk0 : (0 : Int) ≤ (k : Int) := by omega
        have hk1 : (k : Int) < (xs.length : Int) := by omega
        have hk1' : (k : Int) < (ys.length : Int) := by omega
        have hk2 : ((k : Int)).toNat = k := by omega
        by_cases he : xs.getD k 0 = ys.getD k 0
        · have HE := Lib.hid he
          rw [he] at ck
          generalize ys.getD k 0 = y at ck dk
          clear he
          have t2 : (y != y) = false := by simp
          go_wp2_with fail
          go_quiet (fail)
          go_wp2_with fail
          go_roundw
          case rel => exact ⟨k + 1, _, by omega, by go_num, rfl, fun j hj => by
            by_cases e : j = k
            · subst e; exact HE.out
            · exact HS.out j (by omega)⟩
          case measure => simp [intOf]; omega
        · have H := Lib.hid (show decide (xs = ys) = false from decide_eq_false (fun h => he (by rw [h])))
          generalize xs.getD k 0 = x at ck he
          generalize ys.getD k 0 = y at dk he
          have t2 : (x != y) = true := by simp [bne, he]
          clear he
          go_wp2_with fail
          go_quiet (fail)
          go_wp2_with fail
          go_ret
          exact ⟨ret_bool (by rw [H.out]), below_draws (below_draws (Below.refl _ _) q) _⟩
      · have H := Lib.hid (show decide (xs = ys) = true from decide_eq_true (by
          apply List.ext_getElem HLN.out
          intro j h1 h2
          have := HS.out j (by omega)
          simpa [List.getD, h1, h2] using this))
        go_wp2
        go_ret
        exact ⟨ret_bool (by rw [H.out]), below_draws (Below.refl _ _) q⟩
  · have t : ((xs.length : Int) != (ys.length : Int)) = true := by simp; omega
    have H := Lib.hid (show decide (xs = ys) = false from decide_eq_false (fun h => hl (by rw [h])))
    clear hl hA hB
    go_enter Try.func19, Try.ntmps19
    go_wp2
    go_ret
    exact ⟨ret_bool (by rw [H.out]), Below.refl _ _⟩

theorem equal_nat (xs ys : List Nat) (A A' : Option Addr) (c c' : Nat) (w : World) (hx : xs.length ≤ 1000000) (hA : Ints w w.heap.size A (toI xs)) (hB : Ints w w.heap.size A' (toI ys)) :
    Calls Try.prog 19 #[.slice A xs.length c, .slice A' ys.length c'] w fun e w' => e = .returned (.bool (decide (xs = ys))) ∧ Below w.heap.size w w' := by
  have := equal_any (toI xs) (toI ys) A A' c c' w (by rw [toI_length]; unfold maxLen; omega) hA hB
  rw [toI_length, toI_length] at this
  refine this.mono ?_
  rintro e w' ⟨rfl, hb⟩
  refine ⟨ret_bool ?_, hb⟩
  rw [Bool.eq_iff_iff, decide_eq_true_iff, decide_eq_true_iff]
  exact ⟨toI_inj, fun h => by rw [h]⟩

/-- a slice of ints that a call made -/
abbrev OwnI (w : World) (base : Nat) (v : Value) (xs : List Int) : Prop := w.ownsRow base 3 1 v xs.length (cellsI xs)
theorem OwnI.nat {w : World} {base : Nat} {v : Value} {ys : List Nat} (h : OwnI w base v (toI ys)) : Own w base v ys := by
  unfold OwnI at h
  rw [cellsI_toI, toI_length] at h
  exact h
theorem OwnI.ints {w : World} {base : Nat} {v : Value} {xs : List Int} (h : OwnI w base v xs) : ∃ A c, v = .slice A xs.length c ∧ Ints w w.heap.size A xs := by
  have h0 := h
  rcases h.2 with ⟨hv, hn⟩ | ⟨g, cap, cur, hv, hb, hg, _⟩
  · exact ⟨none, 0, by rw [hv, hn], .inl (List.eq_nil_of_length_eq_zero hn)⟩
  · refine ⟨_, _, hv, .inr ⟨g, 0, rfl, (h0.lt g (by rw [hv]; rfl)).2, fun i x hx => ?_⟩⟩
    have hc := h0.cells (g := g) (by rw [hv]; rfl) i (.int .i64 x) (by simp [cellsI, hx])
    rw [addr_plain] at hc
    exact hc

theorem clone_nil (n c : Nat) (w : World) :
    Calls Try.prog 12 #[.slice none n c] w fun e w' => e = .returned (.slice none 0 0) ∧ w = w' := by
  have q22 : ∀ (w : World) (a : Option Addr) (n c n' c' : Nat), (binOp .eql 22 (.slice a n c) (.slice none n' c')).run Try.prog w = .ok (.bool a.isNone) w := fun w a n c n' c' => Lib.run_eql_slice_nil w _ _ a n c n' c' Try.underlying22
  go_enter Try.func12, Try.ntmps12
  go_wp2
  go_ret
  exact ⟨rfl, rfl⟩

set_option maxHeartbeats 2000000 in
set_option maxRecDepth 100000 in
theorem clone_some (xs : List Int) (ad : Addr) (c : Nat) (w : World) (hl : xs.length ≤ 1000000) (h : ∀ j u, (cellsI xs)[j]? = some u → w.cell? (ad.add j) = some u) :
    Calls Try.prog 12 #[.slice (some ad) xs.length c] w fun e w' =>
      ∃ v, e = .returned v ∧ OwnI w' w.heap.size v xs ∧ Below w.heap.size w w' := by
  have q22 : ∀ (w : World) (a : Option Addr) (n c n' c' : Nat), (binOp .eql 22 (.slice a n c) (.slice none n' c')).run Try.prog w = .ok (.bool a.isNone) w := fun w a n c n' c' => Lib.run_eql_slice_nil w _ _ a n c n' c' Try.underlying22
  obtain ⟨i0, hi, hz0, hz1, hz2⟩ := info_parts infoInt
  have HC := Lib.hid h
  clear h
  go_enter Try.func12, Try.ntmps12
  go_wp2_with (at_builtin; refine wpList_append_own _ rfl _ _ 22 rfl w.heap.size 3 i0 (.int .i64 0) 1 8 Try.underlying22 hi hz0 hz1 hz2 rfl (by decide) _ _ _ rfl (World.ownsRow_made w #[] 0 (Nat.le_refl _) (Nat.zero_le _) (by simp)) ad xs.length c (cellsI xs) rfl ?qc1 ?qc2 ?qc3 ?qc4 ?qc5 ?qc6 ?_)
  case qc1 => simp [cellsI]
  case qc2 =>
    intro j u hj
    exact (World.cell?_alloc_lt w _ _ (World.block_lt_of_cell? w _ (HC.out j u hj))).trans (HC.out j u hj)
  case qc3 => exact cellsI_one xs
  case qc4 => unfold maxLen; omega
  case qc5 => omega
  case qc6 => simp
  intro v' w1 hown hgrow hnil
  go_wp2
  go_ret
  refine ⟨v', rfl, by simpa using hown, ?_⟩
  exact ((Below.refl _ w).alloc (Nat.le_refl _) _).grown hgrow (by simp) (by intro k hk; simp [Value.ownBlock] at hk; omega)

/-- slices.Clone: the same ints, in memory of the call's own -/
theorem clone_any (xs : List Int) (A : Option Addr) (B c : Nat) (w : World) (hl : xs.length ≤ 1000000) (hT : Ints w B A xs) :
    Calls Try.prog 12 #[.slice A xs.length c] w fun e w' => ∃ v, e = .returned v ∧ OwnI w' w.heap.size v xs ∧ Below w.heap.size w w' := by
  rcases hT with rfl | ⟨b, off, rfl, _, h⟩
  · rcases A with _ | ad
    · refine (clone_nil 0 c w).mono ?_
      rintro e w' ⟨rfl, rfl⟩
      exact ⟨_, rfl, World.ownsRow_nil _ _ _ _, Below.refl _ _⟩
    · exact clone_some [] ad c w (by simp) (by intro j u hj; simp [cellsI] at hj)
  · refine clone_some xs ⟨b, off, none⟩ c w hl (fun j u hu => ?_)
    rw [addr_plain]
    simp only [cellsI, List.getElem?_map, Option.map_eq_some_iff] at hu
    obtain ⟨x, hx, rfl⟩ := hu
    exact h j x hx

end Go.Proofs.Ytdflgcfjfgojkaa
