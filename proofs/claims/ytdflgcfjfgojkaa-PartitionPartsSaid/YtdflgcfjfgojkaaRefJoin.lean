/-
  Contracts of Join, Meet, Finer of the reference.
-/
import Derived.Test.YtdflgcfjfgojkaaMeet
namespace Go.Proofs.Ytdflgcfjfgojkaa
open Go.RowKit

theorem Own.mono {w : World} {base base' : Nat} {v : Value} {ys : List Nat} (h : Own w base v ys) (hb : base' ≤ base) : Own w base' v ys :=
  ⟨h.1, h.2.imp id fun ⟨g, cap, cur, hv, hg, r⟩ => ⟨g, cap, cur, hv, Nat.le_trans hb hg, r⟩⟩

theorem cell_new (w : World) (u : Value) (t : TypeId) : (w.alloc (.cells #[u] t)).cell? ⟨w.heap.size, 0, none⟩ = some u := by simp

theorem refJoin_err (xs ys : List Int) (A A' : Option Addr) (c c' : Nat) (w : World) (hx : xs.length ≤ maxLen) (hy : ys.length ≤ maxLen) (hA : Ints w w.heap.size A xs) (hB : Ints w w.heap.size A' ys) (hE : bothS xs ys ≠ 0) :
    Calls Try.prog 21 #[.slice A xs.length c, .slice A' ys.length c'] w fun e w' => Err2 (bothS xs ys) e ∧ Below w.heap.size w w' := by
  have HC := Lib.hid (both_any xs ys A A' c c' w hx hy hA hB)
  have t : ((bothS xs ys : Int) != 0) = true := by simp; omega
  clear hA hB hx hy hE
  generalize bothS xs ys = n at t HC ⊢
  go_enter Try.func21, Try.ntmps21
  go_wp2_with fail
  refine HC.out.mono ?_
  rintro e w' ⟨rfl, hb⟩
  go_wp2_with fail
  go_ret2
  exact ⟨rfl, hb⟩

theorem refMeet_err (xs ys : List Int) (A A' : Option Addr) (c c' : Nat) (w : World) (hx : xs.length ≤ maxLen) (hy : ys.length ≤ maxLen) (hA : Ints w w.heap.size A xs) (hB : Ints w w.heap.size A' ys) (hE : bothS xs ys ≠ 0) :
    Calls Try.prog 23 #[.slice A xs.length c, .slice A' ys.length c'] w fun e w' => Err2 (bothS xs ys) e ∧ Below w.heap.size w w' := by
  have HC := Lib.hid (both_any xs ys A A' c c' w hx hy hA hB)
  have t : ((bothS xs ys : Int) != 0) = true := by simp; omega
  clear hA hB hx hy hE
  generalize bothS xs ys = n at t HC ⊢
  go_enter Try.func23, Try.ntmps23
  go_wp2_with fail
  refine HC.out.mono ?_
  rintro e w' ⟨rfl, hb⟩
  go_wp2_with fail
  go_ret2
  exact ⟨rfl, hb⟩

theorem refFiner_err (xs ys : List Int) (A A' : Option Addr) (c c' : Nat) (w : World) (hx : xs.length ≤ maxLen) (hy : ys.length ≤ maxLen) (hA : Ints w w.heap.size A xs) (hB : Ints w w.heap.size A' ys) (hE : bothS xs ys ≠ 0) :
    Calls Try.prog 25 #[.slice A xs.length c, .slice A' ys.length c'] w fun e w' => e = .returned (.bool false) ∧ Below w.heap.size w w' := by
  have HC := Lib.hid (both_any xs ys A A' c c' w hx hy hA hB)
  have t : ((bothS xs ys : Int) != 0) = true := by simp; omega
  clear hA hB hx hy hE
  generalize bothS xs ys = n at t HC
  go_enter Try.func25, Try.ntmps25
  go_wp2_with fail
  refine HC.out.mono ?_
  rintro e w' ⟨rfl, hb⟩
  go_wp2_with fail
  go_ret
  exact ⟨rfl, hb⟩

theorem refBoth_ok (us vs : List Nat) (A A' : Option Addr) (c c' : Nat) (w : World) (ha : V us) (hb : V vs) (hl : us.length = vs.length) (h80 : us.length ≤ 80) (hA : Ints w w.heap.size A (toI us)) (hB : Ints w w.heap.size A' (toI vs)) :
    Calls Try.prog 37 #[.slice A us.length c, .slice A' vs.length c'] w fun e w' => e = .returned (.int .i64 0) ∧ Below w.heap.size w w' := by
  have := both_any (toI us) (toI vs) A A' c c' w (by rw [toI_length]; unfold maxLen; omega) (by rw [toI_length]; unfold maxLen; omega) hA hB
  rw [both_ok ha hb hl h80, toI_length, toI_length] at this
  exact this

theorem refMerge_n (ys : List Nat) (base : Nat) (v : Value) (i k : Nat) (w : World) (hi : i < ys.length) (hk : k < ys.length) (hl : ys.length ≤ 1000) (hown : Own w base v ys) :
    Calls Try.prog 39 #[v, .int .i64 i, .int .i64 k] w fun e w' =>
      ∃ v, e = .returned v ∧ Own w' w.heap.size v (mergeS ys i k) ∧ Below w.heap.size w w' := by
  obtain ⟨A, c, rfl, hT⟩ := hown.ints
  exact refMerge_any ys A c i k w hi hk hl hT

set_option maxHeartbeats 1000000 in
theorem refJoin_ok (us vs : List Nat) (A A' : Option Addr) (c c' : Nat) (w : World) (ha : V us) (hb : V vs) (hl : us.length = vs.length) (h80 : us.length ≤ 80) (hA : Ints w w.heap.size A (toI us)) (hB : Ints w w.heap.size A' (toI vs)) :
    Calls Try.prog 21 #[.slice A us.length c, .slice A' vs.length c'] w fun e w' => Res2 w w' (joinS us vs) e := by
  have HC := Lib.hid (refBoth_ok us vs A A' c c' w ha hb hl h80 hA hB)
  have HA := Lib.hid hA
  have HB := Lib.hid hB
  have HVA := Lib.hid ha
  have HVB := Lib.hid hb
  have HJ := Lib.hid (join_two ha hb hl)
  have hle : us.length ≤ vs.length := by omega
  have hle' : vs.length ≤ us.length := by omega
  clear hA hB ha hb hl
  go_enter Try.func21, Try.ntmps21
  go_wp2_with fail
  refine HC.out.mono ?_
  rintro e w0 ⟨rfl, hb0⟩
  go_wp2_with fail
  refine (refFinest_any us.length _ (by omega)).mono ?_
  rintro e w1 ⟨v, rfl, hown, hb1⟩
  have HO := Lib.hid (hown.mono hb0.size)
  have HB1 := Lib.hid (hb0.trans (hb1.mono hb0.size))
  clear hown hb1 hb0
  go_wp2_with fail
  go_loopw [7, 8] (fun v x wr => ∃ k : Nat, k ≤ us.length ∧ x = .int .i64 k ∧ Own wr w.heap.size v (genS us.length (pairsTwo us vs k)) ∧ Below w.heap.size w wr) (fun _ x _ => us.length - (intOf x).toNat)
  case atStart => exact ⟨0, Nat.zero_le _, rfl, HO.out, HB1.out⟩
  case round =>
    obtain ⟨k, hk, rfl, hown, hbel⟩ := hrel
    have HW := Lib.hid hown
    have HG := Lib.hid hbel
    have hsz := hbel.size
    by_cases hlt : k < us.length
    · obtain ⟨b, off, rfl, hb, hc⟩ := (HA.out.below hbel).atN hlt
      obtain ⟨b', off', rfl, hb', hd⟩ := (HB.out.below hbel).atN (k := k) (by omega)
      have ck := hc k hlt
      have dk := hd k (by omega)
      have hu := HVA.out.lt hlt
      have hv := HVB.out.lt (i := k) (by omega)
      have hln := genS_length us.length (pairsTwo us vs k)
      have hln2 := mergeS_length (genS us.length (pairsTwo us vs k)) k (at_ us k)
      have H2 := Lib.hid (show genS us.length (pairsTwo us vs (k + 1)) = mergeS (mergeS (genS us.length (pairsTwo us vs k)) k (at_ us k)) k (at_ vs k) by unfold genS; rw [pairsTwo, merges_append]; rfl)
      have HM1 := Lib.hid (fun w1 v h => refMerge_n (genS us.length (pairsTwo us vs k)) w.heap.size v k (at_ us k) w1 (by omega) (by omega) (by omega) h)
      have HM2 := Lib.hid (fun w1 v h => refMerge_n (mergeS (genS us.length (pairsTwo us vs k)) k (at_ us k)) w.heap.size v k (at_ vs k) w1 (by omega) (by omega) (by omega) h)
      clear hown hbel hc hd hln hln2
      generalize at_ us k = y at ck hu H2 HM1 HM2
      generalize at_ vs k = z at dk hv H2 HM2
      go_wp2_with fail
      refine (HM1.out _ _ HW.out).mono ?_
      rintro e w2 ⟨v2, rfl, hown2, hb2⟩
      have dk2 : w2.cell? ⟨b', off' + k, none⟩ = some (.int .i64 (z : Int)) := (hb2.cell (p := ⟨b', off' + k, none⟩) (Nat.lt_of_lt_of_le hb' hsz)).trans dk
      have HW2 := Lib.hid (hown2.mono hsz)
      have HB2 := Lib.hid (HG.out.trans (hb2.mono hsz))
      have hsz2 := hb2.size
      clear hown2 hb2 dk
      go_wp2_with fail
      refine (HM2.out _ _ HW2.out).mono ?_
      rintro e w3 ⟨v3, rfl, hown3, hb3⟩
      have HW3 := Lib.hid (hown3.mono (show w.heap.size ≤ w2.heap.size by omega))
      have HB3 := Lib.hid (HB2.out.trans (hb3.mono (by omega)))
      clear hown3 hb3
      go_wp2_with fail
      go_roundw
      case rel => exact ⟨k + 1, by omega, by go_num, by rw [H2.out]; exact HW3.out, HB3.out⟩
      case measure => simp [intOf]; omega
    · have e : k = us.length := by omega
      subst e
      clear hown hbel
      go_wp2
      go_ret2
      exact ⟨_, rfl, Own.cast HJ.out HW.out, HG.out⟩

set_option maxHeartbeats 1000000 in
theorem refFiner_ok (us vs : List Nat) (A A' : Option Addr) (c c' : Nat) (w : World) (ha : V us) (hb : V vs) (hl : us.length = vs.length) (h80 : us.length ≤ 80) (hA : Ints w w.heap.size A (toI us)) (hB : Ints w w.heap.size A' (toI vs)) :
    Calls Try.prog 25 #[.slice A us.length c, .slice A' vs.length c'] w fun e w' => e = .returned (.bool (decide (F us vs))) ∧ Below w.heap.size w w' := by
  have HC := Lib.hid (refBoth_ok us vs A A' c c' w ha hb hl h80 hA hB)
  have HA := Lib.hid hA
  have HB := Lib.hid hB
  have HVA := Lib.hid ha
  have hle : us.length ≤ vs.length := by omega
  have hle' : vs.length ≤ us.length := by omega
  clear hA hB ha hb hl
  go_enter Try.func25, Try.ntmps25
  go_wp2_with fail
  refine HC.out.mono ?_
  rintro e w0 ⟨rfl, hb0⟩
  have HA0 := Lib.hid (HA.out.below hb0)
  have HB0 := Lib.hid (HB.out.below hb0)
  have HBL := Lib.hid hb0
  clear hb0 HA HB
  go_wp2_with fail
  go_loopw [5] (fun x wr => ∃ k q : Nat, k ≤ us.length ∧ x = .int .i64 k ∧ wr = w0.drewN q ∧ ∀ j, j < k → at_ vs (at_ us j) = at_ vs j) (fun x _ => us.length - (intOf x).toNat)
  case atStart => exact ⟨0, 0, Nat.zero_le _, rfl, rfl, fun j hj => by omega⟩
  case round =>
    obtain ⟨k, q, hk, rfl, rfl, hs⟩ := hrel
    have HS := Lib.hid hs
    clear hs
    by_cases hlt : k < us.length
    · obtain ⟨b, off, rfl, hb, hc⟩ := HA0.out.atN hlt
      obtain ⟨b', off', rfl, hb', hd⟩ := HB0.out.atN (k := k) (by omega)
      have ck := hc k hlt
      have hv := HVA.out.lt hlt
      have dk := hd k (by omega)
      have dv := hd (at_ us k) (by omega)
      have hk0 : (0 : Int) ≤ (k : Int) := by omega
      have hk1 : (k : Int) < (vs.length : Int) := by omega
      have hk1' : (k : Int) < (us.length : Int) := by omega
      have hk2 : ((k : Int)).toNat = k := by omega
      by_cases he : at_ vs (at_ us k) = at_ vs k
      · have HE := Lib.hid he
        rw [he] at dv
        clear he hc hd
        generalize at_ us k = y at ck dv hv
        generalize at_ vs k = z at dk dv
        have hy0 : (0 : Int) ≤ (y : Int) := by omega
        have hy1 : (y : Int) < (vs.length : Int) := by omega
        have hy2 : ((y : Int)).toNat = y := by omega
        have t2 : ((z : Int) != (z : Int)) = false := by simp
        go_wp2_with fail
        go_quiet (fail)
        go_wp2_with fail
        go_roundw
        case rel => exact ⟨k + 1, _, by omega, by go_num, rfl, fun j hj => by
          by_cases e : j = k
          · subst e; exact HE.out
          · exact HS.out j (by omega)⟩
        case measure => simp [intOf]; omega
      · have H := Lib.hid (show decide (F us vs) = false from decide_eq_false (fun h => he (h k hlt)))
        clear hc hd
        generalize at_ vs (at_ us k) = x at dv he
        generalize at_ us k = y at ck dv hv
        generalize at_ vs k = z at dk he
        have hy0 : (0 : Int) ≤ (y : Int) := by omega
        have hy1 : (y : Int) < (vs.length : Int) := by omega
        have hy2 : ((y : Int)).toNat = y := by omega
        have t2 : ((z : Int) != (x : Int)) = true := by simp; omega
        clear he
        go_wp2_with fail
        go_quiet (fail)
        go_wp2_with fail
        go_ret
        exact ⟨ret_bool (by rw [H.out]), below_draws (below_draws HBL.out q) _⟩
    · have H := Lib.hid (show decide (F us vs) = true from decide_eq_true (fun j hj => HS.out j (by omega)))
      go_wp2
      go_ret
      exact ⟨ret_bool (by rw [H.out]), below_draws HBL.out q⟩

theorem meetS_take (us vs : List Nat) {i : Nat} (h : i < us.length) : (meetS us vs).take (i + 1) = (meetS us vs).take i ++ [leastS us vs i] := by
  rw [List.take_succ_eq_append_getElem (by rw [meetS_length]; exact h), at_get (by rw [meetS_length]; exact h), at_meet h]

set_option maxHeartbeats 2000000 in
theorem refMeet_ok (us vs : List Nat) (A A' : Option Addr) (c c' : Nat) (w : World) (ha : V us) (hb : V vs) (hl : us.length = vs.length) (h80 : us.length ≤ 80) (hA : Ints w w.heap.size A (toI us)) (hB : Ints w w.heap.size A' (toI vs)) :
    Calls Try.prog 23 #[.slice A us.length c, .slice A' vs.length c'] w fun e w' => Res2 w w' (meetS us vs) e := by
  have HC := Lib.hid (refBoth_ok us vs A A' c c' w ha hb hl h80 hA hB)
  have HA := Lib.hid hA
  have HB := Lib.hid hB
  have hle : us.length ≤ vs.length := by omega
  have hle' : vs.length ≤ us.length := by omega
  clear hA hB ha hb hl
  go_enter Try.func23, Try.ntmps23
  go_wp2_with fail
  refine HC.out.mono ?_
  rintro e w0 ⟨rfl, hb0⟩
  have HBL := Lib.hid hb0
  clear hb0
  go_wp2_with fail
  go_loopw [7, 8] (fun v x wr => ∃ i : Nat, i ≤ us.length ∧ x = .int .i64 i ∧ Own wr w.heap.size v ((meetS us vs).take i) ∧ Below w.heap.size w wr) (fun _ x _ => us.length - (intOf x).toNat)
  case atStart => exact ⟨0, Nat.zero_le _, rfl, World.ownsRow_nil _ _ _ _, HBL.out⟩
  case round =>
    obtain ⟨i, hi, rfl, hown, hbel⟩ := hrel
    obtain ⟨ao, cap, rfl⟩ := slice_of hown
    by_cases hlt : i < us.length
    · obtain ⟨b, off, rfl, hb, hc⟩ := (HA.out.below hbel).atN hlt
      obtain ⟨b', off', rfl, hb', hd⟩ := (HB.out.below hbel).atN (k := i) (by omega)
      have HW := Lib.hid hown
      have HG := Lib.hid hbel
      have HCC := Lib.hid hc
      have HDD := Lib.hid hd
      have hsz := hbel.size
      have ci := hc i hlt
      have di := hd i (by omega)
      have hlen : ((meetS us vs).take i).length ≤ 80 := by rw [List.length_take, meetS_length]; omega
      have HT := Lib.hid (meetS_take us vs hlt)
      clear hown hbel hc hd
      obtain ⟨wo, rfl⟩ : ∃ wo : World, wo = wr := ⟨_, rfl⟩
      generalize (meetS us vs).take i = ms at HW HT hlen
      have hi0 : (0 : Int) ≤ (i : Int) := by omega
      have hi1 : (i : Int) < (us.length : Int) := by omega
      have hi1' : (i : Int) < (vs.length : Int) := by omega
      have hi2 : ((i : Int)).toNat = i := by omega
      go_wp2_with fail
      go_loopw [9] (fun x wr => ∃ k q : Nat, k ≤ i ∧ x = .int .i64 k ∧ wr = wo.drewN q ∧ ∀ j, j < k → ¬ (at_ us j = at_ us i ∧ at_ vs j = at_ vs i)) (fun x _ => i - (intOf x).toNat)
      case atStart => exact ⟨0, 0, Nat.zero_le _, rfl, rfl, fun j hj => by omega⟩
      case round =>
        obtain ⟨k, q, hk, rfl, rfl, hs⟩ := hrel
        have HS := Lib.hid hs
        clear hs
        have ck := HCC.out k (by omega)
        have dk := HDD.out k (by omega)
        have hk0 : (0 : Int) ≤ (k : Int) := by omega
        have hk1 : (k : Int) < (us.length : Int) := by omega
        have hk1' : (k : Int) < (vs.length : Int) := by omega
        have hk2 : ((k : Int)).toNat = k := by omega
        by_cases h1 : at_ us k = at_ us i
        · by_cases h2 : at_ vs k = at_ vs i
          · have HL := Lib.hid (leastS_eq h1 h2 HS.out)
            rw [HL.out] at HT
            rw [h1] at ck
            rw [h2] at dk
            have t1 : ((at_ us i : Int) != (at_ us i : Int)) = false := by simp
            have t2 : ((at_ vs i : Int) != (at_ vs i : Int)) = false := by simp
            clear h1 h2
            go_wp2_with fail
            go_quiet (fail)
            go_wp2_with (at_builtin; refine wpList_append_int rfl _ _ rfl w.heap.size _ ms rfl (World.ownsRow.alloc (w := wo.drewN _) HW.out _) ⟨wo.heap.size, 0, none⟩ 1 k rfl ?qc1 ?qc2 ?qc3 ?_)
            case qc1 => exact cell_new (wo.drewN _) _ _
            case qc2 => omega
            case qc3 => exact Nat.le_trans hsz (by show wo.heap.size ≤ (wo.heap.push _).size; simp)
            intro v' w2 hown2 hgr2 hb2
            have HW2 := Lib.hid hown2
            have HB2 := Lib.hid (((below_draws HG.out _).alloc hsz _).trans hb2)
            clear hown2 hb2 hgr2
            go_wp2_with fail
            go_roundw
            case rel => exact ⟨i + 1, by omega, by go_num, by rw [HT.out]; exact HW2.out, HB2.out⟩
            case measure => simp [intOf]; omega
          · have H3 := Lib.hid h2
            have t1 : ((at_ us i : Int) != (at_ us i : Int)) = false := by simp
            have t2 : ((at_ vs k : Int) != (at_ vs i : Int)) = true := by simp; omega
            rw [h1] at ck
            have hki : k < i := by
              rcases Nat.lt_or_ge k i with h | h
              · exact h
              · exact absurd (show at_ vs k = at_ vs i by rw [show k = i by omega]) h2
            clear h1 h2
            go_wp2_with fail
            go_quiet (fail)
            go_wp2_with fail
            go_roundw
            case rel => exact ⟨k + 1, _, by omega, by go_num, rfl, fun j hj => by
              by_cases e : j = k
              · subst e; exact fun h => H3.out h.2
              · exact HS.out j (by omega)⟩
            case measure => simp [intOf]; omega
        · have H3 := Lib.hid h1
          have t1 : ((at_ us k : Int) != (at_ us i : Int)) = true := by simp; omega
          have hki : k < i := by
            rcases Nat.lt_or_ge k i with h | h
            · exact h
            · exact absurd (show at_ us k = at_ us i by rw [show k = i by omega]) h1
          clear h1
          go_wp2_with fail
          go_quiet (fail)
          go_wp2_with fail
          go_roundw
          case rel => exact ⟨k + 1, _, by omega, by go_num, rfl, fun j hj => by
            by_cases e : j = k
            · subst e; exact fun h => H3.out h.1
            · exact HS.out j (by omega)⟩
          case measure => simp [intOf]; omega
    · have e : i = us.length := by omega
      subst e
      have HT := Lib.hid (show (meetS us vs).take us.length = meetS us vs from List.take_of_length_le (by rw [meetS_length]; exact Nat.le_refl _))
      have HW := Lib.hid hown
      clear hown
      go_wp2
      go_ret2
      exact ⟨_, rfl, Own.cast HT.out HW.out, hbel⟩

end Go.Proofs.Ytdflgcfjfgojkaa
