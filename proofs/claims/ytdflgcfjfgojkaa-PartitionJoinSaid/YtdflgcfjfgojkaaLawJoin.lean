/-
  PartitionJoin: for every two lists of ints the law returns true. No condition.
-/
import Derived.Test.YtdflgcfjfgojkaaUni
import Derived.Test.YtdflgcfjfgojkaaOpen
namespace Go.Proofs.Ytdflgcfjfgojkaa
open Go.RowKit

set_option maxRecDepth 100000 in
set_option maxHeartbeats 4000000 in
theorem lawJoin (xs : List Int) (A : Option Addr) (c : Nat) (ys : List Int) (A' : Option Addr) (c' : Nat) (w : World) (hl : xs.length ≤ maxLen) (hA : Ints w w.heap.size A xs) (hl' : ys.length ≤ maxLen) (hC : Ints w w.heap.size A' ys) :
    Calls Try.prog 4 #[.slice A xs.length c, .slice A' ys.length c'] w fun e w' => e = .returned (.bool true) ∧ Below w.heap.size w w' := by
  have HA := Lib.hid hA
  have HC := Lib.hid hC
  have HM := Lib.hid hl
  have HN := Lib.hid hl'
  unfold maxLen at hl hl'
  clear hA hC
  by_cases h100 : 100 < xs.length
  · skip
    go_enter Try.func4, Try.ntmps4
    go_wp2_with fail
    refine (awake_any _).mono ?_
    rintro e w1 ⟨rfl, hb1⟩
    have HB1 := Lib.hid hb1
    clear hb1
    go_wp2_with fail
    refine (awake_any _).mono ?_
    rintro e w2 ⟨rfl, hb2⟩
    go_wp2_with fail
    go_ret
    exact ⟨rfl, HB1.out.trans (hb2.mono HB1.out.size)⟩
  · by_cases h101 : 100 < ys.length
    · skip
      go_enter Try.func4, Try.ntmps4
      go_wp2_with fail
      refine (awake_any _).mono ?_
      rintro e w1 ⟨rfl, hb1⟩
      have HB1 := Lib.hid hb1
      clear hb1
      go_wp2_with fail
      refine (awake_any _).mono ?_
      rintro e w2 ⟨rfl, hb2⟩
      go_wp2_with fail
      go_ret
      exact ⟨rfl, HB1.out.trans (hb2.mono HB1.out.size)⟩
    have HL1 := Lib.hid (show (joinR xs ys).length ≤ 1000000 by have := joinR_len xs ys; omega)
    have HL2 := Lib.hid (show (meetR xs ys).length ≤ 1000000 by have := meetR_len xs ys; omega)
    go_enter Try.func4, Try.ntmps4
    have HB0 := Lib.hid (Below.refl w.heap.size w)
    go_wp2_with fail
    refine (awake_any _).mono ?_
    rintro e w1 ⟨rfl, hb1⟩
    have HA_1 := Lib.hid (HA.out.up hb1)
    have HC_1 := Lib.hid (HC.out.up hb1)
    have HB1 := Lib.hid (HB0.out.trans (hb1.mono HB0.out.size))
    clear HA HC hb1 HB0
    go_wp2_with fail
    refine (cloneI xs _ _ _ (by omega) HA_1.out).mono ?_
    rintro e w2 ⟨A1, c1, rfl, hT1, hb2⟩
    have HA_2 := Lib.hid (HA_1.out.up hb2)
    have HC_2 := Lib.hid (HC_1.out.up hb2)
    have HB2 := Lib.hid (HB1.out.trans (hb2.mono HB1.out.size))
    have HT1_2 := Lib.hid hT1
    clear HA_1 HC_1 hT1 hb2 HB1
    go_wp2_with fail
    refine (cloneI ys _ _ _ (by omega) HC_2.out).mono ?_
    rintro e w3 ⟨B1, d1, rfl, hU1, hb3⟩
    have HA_3 := Lib.hid (HA_2.out.up hb3)
    have HC_3 := Lib.hid (HC_2.out.up hb3)
    have HT1_3 := Lib.hid (HT1_2.out.up hb3)
    have HB3 := Lib.hid (HB2.out.trans (hb3.mono HB2.out.size))
    have HU1_3 := Lib.hid hU1
    clear HA_2 HC_2 HT1_2 hU1 hb3 HB2
    go_wp2_with fail
    refine (joinP xs ys _ _ _ _ _ HM.out HN.out HT1_3.out HU1_3.out).mono ?_
    rintro e w4 ⟨v1, rfl, ho1, hb4⟩
    have HA_4 := Lib.hid (HA_3.out.up hb4)
    have HC_4 := Lib.hid (HC_3.out.up hb4)
    have HT1_4 := Lib.hid (HT1_3.out.up hb4)
    have HU1_4 := Lib.hid (HU1_3.out.up hb4)
    have HB4 := Lib.hid (HB3.out.trans (hb4.mono HB3.out.size))
    have HO1_4 := Lib.hid ho1
    clear HA_3 HC_3 HT1_3 HU1_3 ho1 hb4 HB3
    go_wp2_with fail
    refine (joinRf xs ys _ _ _ _ _ HM.out HN.out HA_4.out HC_4.out).mono ?_
    rintro e w5 ⟨v2, rfl, ho2, hb5⟩
    have HA_5 := Lib.hid (HA_4.out.up hb5)
    have HC_5 := Lib.hid (HC_4.out.up hb5)
    have HT1_5 := Lib.hid (HT1_4.out.up hb5)
    have HU1_5 := Lib.hid (HU1_4.out.up hb5)
    have HO1_5 := Lib.hid (HO1_4.out.below hb5 (Nat.le_refl _))
    have HB5 := Lib.hid (HB4.out.trans (hb5.mono HB4.out.size))
    have HO2_5 := Lib.hid ho2
    clear HA_4 HC_4 HT1_4 HU1_4 HO1_4 ho2 hb5 HB4
    go_wp2_with fail
    refine (cloneI xs _ _ _ (by omega) HA_5.out).mono ?_
    rintro e w6 ⟨A2, c2, rfl, hT2, hb6⟩
    have HA_6 := Lib.hid (HA_5.out.up hb6)
    have HC_6 := Lib.hid (HC_5.out.up hb6)
    have HT1_6 := Lib.hid (HT1_5.out.up hb6)
    have HU1_6 := Lib.hid (HU1_5.out.up hb6)
    have HO1_6 := Lib.hid (HO1_5.out.below hb6 (Nat.le_refl _))
    have HO2_6 := Lib.hid (HO2_5.out.below hb6 (Nat.le_refl _))
    have HB6 := Lib.hid (HB5.out.trans (hb6.mono HB5.out.size))
    have HT2_6 := Lib.hid hT2
    clear HA_5 HC_5 HT1_5 HU1_5 HO1_5 HO2_5 hT2 hb6 HB5
    go_wp2_with fail
    refine (cloneI ys _ _ _ (by omega) HC_6.out).mono ?_
    rintro e w7 ⟨B2, d2, rfl, hU2, hb7⟩
    have HA_7 := Lib.hid (HA_6.out.up hb7)
    have HC_7 := Lib.hid (HC_6.out.up hb7)
    have HT1_7 := Lib.hid (HT1_6.out.up hb7)
    have HU1_7 := Lib.hid (HU1_6.out.up hb7)
    have HT2_7 := Lib.hid (HT2_6.out.up hb7)
    have HO1_7 := Lib.hid (HO1_6.out.below hb7 (Nat.le_refl _))
    have HO2_7 := Lib.hid (HO2_6.out.below hb7 (Nat.le_refl _))
    have HB7 := Lib.hid (HB6.out.trans (hb7.mono HB6.out.size))
    have HU2_7 := Lib.hid hU2
    clear HA_6 HC_6 HT1_6 HU1_6 HT2_6 HO1_6 HO2_6 hU2 hb7 HB6
    go_wp2_with fail
    refine (meetP xs ys _ _ _ _ _ HM.out HN.out HT2_7.out HU2_7.out).mono ?_
    rintro e w8 ⟨v3, rfl, ho3, hb8⟩
    have HA_8 := Lib.hid (HA_7.out.up hb8)
    have HC_8 := Lib.hid (HC_7.out.up hb8)
    have HT1_8 := Lib.hid (HT1_7.out.up hb8)
    have HU1_8 := Lib.hid (HU1_7.out.up hb8)
    have HT2_8 := Lib.hid (HT2_7.out.up hb8)
    have HU2_8 := Lib.hid (HU2_7.out.up hb8)
    have HO1_8 := Lib.hid (HO1_7.out.below hb8 (Nat.le_refl _))
    have HO2_8 := Lib.hid (HO2_7.out.below hb8 (Nat.le_refl _))
    have HB8 := Lib.hid (HB7.out.trans (hb8.mono HB7.out.size))
    have HO3_8 := Lib.hid ho3
    clear HA_7 HC_7 HT1_7 HU1_7 HT2_7 HU2_7 HO1_7 HO2_7 ho3 hb8 HB7
    go_wp2_with fail
    refine (meetRf xs ys _ _ _ _ _ HM.out HN.out HA_8.out HC_8.out).mono ?_
    rintro e w9 ⟨v4, rfl, ho4, hb9⟩
    have HA_9 := Lib.hid (HA_8.out.up hb9)
    have HC_9 := Lib.hid (HC_8.out.up hb9)
    have HT1_9 := Lib.hid (HT1_8.out.up hb9)
    have HU1_9 := Lib.hid (HU1_8.out.up hb9)
    have HT2_9 := Lib.hid (HT2_8.out.up hb9)
    have HU2_9 := Lib.hid (HU2_8.out.up hb9)
    have HO1_9 := Lib.hid (HO1_8.out.below hb9 (Nat.le_refl _))
    have HO2_9 := Lib.hid (HO2_8.out.below hb9 (Nat.le_refl _))
    have HO3_9 := Lib.hid (HO3_8.out.below hb9 (Nat.le_refl _))
    have HB9 := Lib.hid (HB8.out.trans (hb9.mono HB8.out.size))
    have HO4_9 := Lib.hid ho4
    clear HA_8 HC_8 HT1_8 HU1_8 HT2_8 HU2_8 HO1_8 HO2_8 HO3_8 ho4 hb9 HB8
    go_wp2_with fail
    refine (sameOwn _ _ _ _ _ _ HL1.out HO1_9.out HO2_9.out).mono ?_
    rintro e w10 ⟨rfl, hb10⟩
    have HA_10 := Lib.hid (HA_9.out.up hb10)
    have HC_10 := Lib.hid (HC_9.out.up hb10)
    have HT1_10 := Lib.hid (HT1_9.out.up hb10)
    have HU1_10 := Lib.hid (HU1_9.out.up hb10)
    have HT2_10 := Lib.hid (HT2_9.out.up hb10)
    have HU2_10 := Lib.hid (HU2_9.out.up hb10)
    have HO1_10 := Lib.hid (HO1_9.out.below hb10 (Nat.le_refl _))
    have HO2_10 := Lib.hid (HO2_9.out.below hb10 (Nat.le_refl _))
    have HO3_10 := Lib.hid (HO3_9.out.below hb10 (Nat.le_refl _))
    have HO4_10 := Lib.hid (HO4_9.out.below hb10 (Nat.le_refl _))
    have HB10 := Lib.hid (HB9.out.trans (hb10.mono HB9.out.size))
    clear HA_9 HC_9 HT1_9 HU1_9 HT2_9 HU2_9 HO1_9 HO2_9 HO3_9 HO4_9 hb10 HB9
    go_wp2_with fail
    refine (sameOwn _ _ _ _ _ _ HL2.out HO3_10.out HO4_10.out).mono ?_
    rintro e w11 ⟨rfl, hb11⟩
    have HA_11 := Lib.hid (HA_10.out.up hb11)
    have HC_11 := Lib.hid (HC_10.out.up hb11)
    have HT1_11 := Lib.hid (HT1_10.out.up hb11)
    have HU1_11 := Lib.hid (HU1_10.out.up hb11)
    have HT2_11 := Lib.hid (HT2_10.out.up hb11)
    have HU2_11 := Lib.hid (HU2_10.out.up hb11)
    have HO1_11 := Lib.hid (HO1_10.out.below hb11 (Nat.le_refl _))
    have HO2_11 := Lib.hid (HO2_10.out.below hb11 (Nat.le_refl _))
    have HO3_11 := Lib.hid (HO3_10.out.below hb11 (Nat.le_refl _))
    have HO4_11 := Lib.hid (HO4_10.out.below hb11 (Nat.le_refl _))
    have HB11 := Lib.hid (HB10.out.trans (hb11.mono HB10.out.size))
    clear HA_10 HC_10 HT1_10 HU1_10 HT2_10 HU2_10 HO1_10 HO2_10 HO3_10 HO4_10 hb11 HB10
    have HFP := Lib.hid (fun u h h2 => finerP xs ys A A' c c' u HM.out HN.out h h2)
    have HFR := Lib.hid (fun u h h2 => finerRf xs ys A A' c c' u HM.out HN.out h h2)
    generalize finerR xs ys = bz at HFP HFR
    have tz : (bz == bz) = true := by simp
    go_wp2_with fail
    refine (HFP.out _ HA_11.out HC_11.out).mono ?_
    rintro e w12 ⟨rfl, hb12⟩
    have HA_12 := Lib.hid (HA_11.out.up hb12)
    have HC_12 := Lib.hid (HC_11.out.up hb12)
    have HT1_12 := Lib.hid (HT1_11.out.up hb12)
    have HU1_12 := Lib.hid (HU1_11.out.up hb12)
    have HT2_12 := Lib.hid (HT2_11.out.up hb12)
    have HU2_12 := Lib.hid (HU2_11.out.up hb12)
    have HO1_12 := Lib.hid (HO1_11.out.below hb12 (Nat.le_refl _))
    have HO2_12 := Lib.hid (HO2_11.out.below hb12 (Nat.le_refl _))
    have HO3_12 := Lib.hid (HO3_11.out.below hb12 (Nat.le_refl _))
    have HO4_12 := Lib.hid (HO4_11.out.below hb12 (Nat.le_refl _))
    have HB12 := Lib.hid (HB11.out.trans (hb12.mono HB11.out.size))
    clear HA_11 HC_11 HT1_11 HU1_11 HT2_11 HU2_11 HO1_11 HO2_11 HO3_11 HO4_11 hb12 HB11
    go_wp2_with fail
    refine (HFR.out _ HA_12.out HC_12.out).mono ?_
    rintro e w13 ⟨rfl, hb13⟩
    have HA_13 := Lib.hid (HA_12.out.up hb13)
    have HC_13 := Lib.hid (HC_12.out.up hb13)
    have HT1_13 := Lib.hid (HT1_12.out.up hb13)
    have HU1_13 := Lib.hid (HU1_12.out.up hb13)
    have HT2_13 := Lib.hid (HT2_12.out.up hb13)
    have HU2_13 := Lib.hid (HU2_12.out.up hb13)
    have HO1_13 := Lib.hid (HO1_12.out.below hb13 (Nat.le_refl _))
    have HO2_13 := Lib.hid (HO2_12.out.below hb13 (Nat.le_refl _))
    have HO3_13 := Lib.hid (HO3_12.out.below hb13 (Nat.le_refl _))
    have HO4_13 := Lib.hid (HO4_12.out.below hb13 (Nat.le_refl _))
    have HB13 := Lib.hid (HB12.out.trans (hb13.mono HB12.out.size))
    clear HA_12 HC_12 HT1_12 HU1_12 HT2_12 HU2_12 HO1_12 HO2_12 HO3_12 HO4_12 hb13 HB12
    go_wp2_with fail
    go_ret
    exact ⟨rfl, HB13.out⟩

end Go.Proofs.Ytdflgcfjfgojkaa
namespace Go.Proofs.Ytdflgcfjfgojkaa.partitionJoin
open Go.ChangeShapes Go.WideShapes Go.ChangeAt Go.RowKit

set_option maxRecDepth 100000 in
theorem lifted (os : Os) (started : os.Started) (H : Type) (enc : TypeId × Value → H) :
    ReturnsInHanded {} Try.checked os 4 .any (Rows.partitionJoinSpec.pre6 enc Try.prog Try.f4 Rows.partitionJoinRow.domain false) (Rows.partitionJoinSpec.post enc Try.prog Try.f4 false true false false) := by
  refine returnsInHanded_of_change (C := Try.checked) ownNone started (by kernel_rfl) Try.func4
    (ChangeSpec.witness6 (enc := enc) (C := Try.checked) false ⟨#[], #[.slice none 0 0, .slice none 0 0], []⟩ 8 (by kernel_rfl) (by kernel_rfl) (by kernel_rfl) (by kernel_rfl)) ?_
  intro W base args ds gs before hval0 hW hcnd _
  have hval : ∀ (j : Nat) t v, Try.f4.params[j]? = some t → args[j]? = some v → Value.okWide Try.prog W .any base t v := hval0
  have hW' := hW
  obtain ⟨p, q, hA0, hV, rfl, hfz, hnd⟩ := hW
  have hA : DataW.TrodAll enc Try.prog W 0 (fun _ => true) true Try.f4.params.toList args.toList ds p := hA0
  rw [Try.params4] at hA hval
  obtain ⟨v0, v1, d0, d1, p0, p1, rfl, rfl, rfl, h0, h1⟩ := trodAll_two hA
  obtain ⟨rfl, rfl⟩ := trodVars_none hV
  clear hA0 hval0
  simp only [List.append_nil] at hW'
  have hlt : ∀ x ∈ p0 ++ p1, x.block < W.heap.size := fun x hx => by simpa using hW'.lt x (by simpa using hx)
  have k0 := h0
  obtain ⟨a0, len0, cap0, rfl⟩ := okWide_slice Try.underlying22 (hval 0 22 v0 rfl rfl)
  obtain ⟨f0, g0⟩ := h0
  obtain ⟨A0, xs0, c0, e0, hT0, hl0⟩ := open_i g0
  simp [Value.cells] at e0
  obtain ⟨rfl, rfl, rfl⟩ := e0
  have k1 := h1
  obtain ⟨a1, len1, cap1, rfl⟩ := okWide_slice Try.underlying22 (hval 1 22 v1 rfl rfl)
  obtain ⟨f1, g1⟩ := h1
  obtain ⟨A1, xs1, c1, e1, hT1, hl1⟩ := open_i g1
  simp [Value.cells] at e1
  obtain ⟨rfl, rfl, rfl⟩ := e1
  refine (lawJoin xs0 a0 cap0 xs1 a1 cap1 W hl0 hT0 hl1 hT1).mono fun e W' ⟨he, hg⟩ => ?_
  subst he
  exact ⟨_, rfl, _, _, _, [], p0 ++ p1, [], hW', trodAll_cons_mk (shut_bool Try.underlying4 _) trodAll_mk0, trodAll_mk2 (Below.trod laidOut (by kernel_rfl) (of_decide_eq_true (by kernel_rfl)) k0 hg (fun x hx => hlt x (List.mem_append_left _ hx))) (Below.trod laidOut (by kernel_rfl) (of_decide_eq_true (by kernel_rfl)) k1 hg (fun x hx => hlt x (List.mem_append_right _ hx))), rfl, hg.frame _, fun h => by cases h⟩

theorem over : Rows.partitionJoinRow.holds Try.pinned (OpenSpec.ofChange Rows.partitionJoinSpec) :=
  OpenClaim.holds_of_wide 4 Try.f4 rfl rfl rfl rfl rfl rfl rfl ⟨rfl, rfl, rfl, rfl, rfl⟩ rfl rfl rfl rfl rfl (by kernel_rfl) Try.func4 (by kernel_rfl)
    (of_decide_eq_true (by kernel_rfl)) (by unfold Func.isWrapper; first | (rw [if_pos (by decide +kernel)]; kernel_rfl) | (rw [if_neg (by decide +kernel)]; exact ⟨rfl, rfl⟩))
    (fun os started H enc _ => lifted os started H enc)

theorem proved : Rows.PartitionJoinSaid := over

end Go.Proofs.Ytdflgcfjfgojkaa.partitionJoin
