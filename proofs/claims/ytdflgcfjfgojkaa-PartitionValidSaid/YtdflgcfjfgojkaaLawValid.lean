/-
  PartitionValid: for every list of ints the law returns true. No condition.
-/
import Derived.Test.YtdflgcfjfgojkaaUni
import Derived.Test.YtdflgcfjfgojkaaOpen
namespace Go.Proofs.Ytdflgcfjfgojkaa
open Go.RowKit

set_option maxRecDepth 100000 in
set_option maxHeartbeats 4000000 in
theorem lawValid (xs : List Int) (A : Option Addr) (c : Nat) (w : World) (hl : xs.length ≤ maxLen) (hA : Ints w w.heap.size A xs) :
    Calls Try.prog 3 #[.slice A xs.length c] w fun e w' => e = .returned (.bool true) ∧ Below w.heap.size w w' := by
  have HA := Lib.hid hA
  have HM := Lib.hid hl
  unfold maxLen at hl
  clear hA
  by_cases h100 : 100 < xs.length
  · go_enter Try.func3, Try.ntmps3
    go_wp2_with fail
    refine (awake_any _).mono ?_
    rintro e w1 ⟨rfl, hb1⟩
    have HB1 := Lib.hid hb1
    clear hb1
    go_wp2_with fail
    refine (awake_any _).mono ?_
    rintro e w2 ⟨rfl, hb2⟩
    go_wp2_with fail
    go_ret
    exact ⟨rfl, HB1.out.trans (hb2.mono HB1.out.size)⟩
  · have HL1 := Lib.hid (show (clsR xs).length ≤ 1000000 by have := (clsR_len xs).1; omega)
    have HL2 := Lib.hid (clsR_len xs).2
    have HL3 := Lib.hid (show (quoR xs).length ≤ 1000000 by have := quoR_len xs; omega)
    go_enter Try.func3, Try.ntmps3
    have HB0 := Lib.hid (Below.refl w.heap.size w)
    go_wp2_with fail
    refine (awake_any _).mono ?_
    rintro e w1 ⟨rfl, hb1⟩
    have HA_1 := Lib.hid (HA.out.up hb1)
    have HB1 := Lib.hid (HB0.out.trans (hb1.mono HB0.out.size))
    clear HA hb1 HB0
    go_wp2_with fail
    refine (cloneI xs _ _ _ (by omega) HA_1.out).mono ?_
    rintro e w2 ⟨A1, c1, rfl, hT, hb2⟩
    have HA_2 := Lib.hid (HA_1.out.up hb2)
    have HB2 := Lib.hid (HB1.out.trans (hb2.mono HB1.out.size))
    have HT_2 := Lib.hid hT
    clear HA_1 hT hb2 HB1
    go_wp2_with fail
    refine (clsP xs _ _ _ HM.out HT_2.out).mono ?_
    rintro e w3 ⟨v1, rfl, ho1, hb3⟩
    have HA_3 := Lib.hid (HA_2.out.up hb3)
    have HT_3 := Lib.hid (HT_2.out.up hb3)
    have HB3 := Lib.hid (HB2.out.trans (hb3.mono HB2.out.size))
    have HO1_3 := Lib.hid ho1
    clear HA_2 HT_2 ho1 hb3 HB2
    go_wp2_with fail
    refine (clsRf xs _ _ _ HM.out HA_3.out).mono ?_
    rintro e w4 ⟨v2, rfl, ho2, hb4⟩
    have HA_4 := Lib.hid (HA_3.out.up hb4)
    have HT_4 := Lib.hid (HT_3.out.up hb4)
    have HO1_4 := Lib.hid (HO1_3.out.below hb4 (Nat.le_refl _))
    have HB4 := Lib.hid (HB3.out.trans (hb4.mono HB3.out.size))
    have HO2_4 := Lib.hid ho2
    clear HA_3 HT_3 HO1_3 ho2 hb4 HB3
    go_wp2_with fail
    refine (cloneI xs _ _ _ (by omega) HA_4.out).mono ?_
    rintro e w5 ⟨A2, c2, rfl, hT2, hb5⟩
    have HA_5 := Lib.hid (HA_4.out.up hb5)
    have HT_5 := Lib.hid (HT_4.out.up hb5)
    have HO1_5 := Lib.hid (HO1_4.out.below hb5 (Nat.le_refl _))
    have HO2_5 := Lib.hid (HO2_4.out.below hb5 (Nat.le_refl _))
    have HB5 := Lib.hid (HB4.out.trans (hb5.mono HB4.out.size))
    have HU_5 := Lib.hid hT2
    clear HA_4 HT_4 HO1_4 HO2_4 hT2 hb5 HB4
    go_wp2_with fail
    refine (quoP xs _ _ _ HM.out HU_5.out).mono ?_
    rintro e w6 ⟨v3, rfl, ho3, hb6⟩
    have HA_6 := Lib.hid (HA_5.out.up hb6)
    have HT_6 := Lib.hid (HT_5.out.up hb6)
    have HU_6 := Lib.hid (HU_5.out.up hb6)
    have HO1_6 := Lib.hid (HO1_5.out.below hb6 (Nat.le_refl _))
    have HO2_6 := Lib.hid (HO2_5.out.below hb6 (Nat.le_refl _))
    have HB6 := Lib.hid (HB5.out.trans (hb6.mono HB5.out.size))
    have HO3_6 := Lib.hid ho3
    clear HA_5 HT_5 HU_5 HO1_5 HO2_5 ho3 hb6 HB5
    go_wp2_with fail
    refine (quoRf xs _ _ _ HM.out HA_6.out).mono ?_
    rintro e w7 ⟨v4, rfl, ho4, hb7⟩
    have HA_7 := Lib.hid (HA_6.out.up hb7)
    have HT_7 := Lib.hid (HT_6.out.up hb7)
    have HU_7 := Lib.hid (HU_6.out.up hb7)
    have HO1_7 := Lib.hid (HO1_6.out.below hb7 (Nat.le_refl _))
    have HO2_7 := Lib.hid (HO2_6.out.below hb7 (Nat.le_refl _))
    have HO3_7 := Lib.hid (HO3_6.out.below hb7 (Nat.le_refl _))
    have HB7 := Lib.hid (HB6.out.trans (hb7.mono HB6.out.size))
    have HO4_7 := Lib.hid ho4
    clear HA_6 HT_6 HU_6 HO1_6 HO2_6 HO3_6 ho4 hb7 HB6
    go_wp2_with fail
    refine (cloneI xs _ _ _ (by omega) HA_7.out).mono ?_
    rintro e w8 ⟨A3, c3, rfl, hT3, hb8⟩
    have HA_8 := Lib.hid (HA_7.out.up hb8)
    have HT_8 := Lib.hid (HT_7.out.up hb8)
    have HU_8 := Lib.hid (HU_7.out.up hb8)
    have HO1_8 := Lib.hid (HO1_7.out.below hb8 (Nat.le_refl _))
    have HO2_8 := Lib.hid (HO2_7.out.below hb8 (Nat.le_refl _))
    have HO3_8 := Lib.hid (HO3_7.out.below hb8 (Nat.le_refl _))
    have HO4_8 := Lib.hid (HO4_7.out.below hb8 (Nat.le_refl _))
    have HB8 := Lib.hid (HB7.out.trans (hb8.mono HB7.out.size))
    have HV_8 := Lib.hid hT3
    clear HA_7 HT_7 HU_7 HO1_7 HO2_7 HO3_7 HO4_7 hT3 hb8 HB7
    have HVA := Lib.hid (valid_any xs _ c3 _ _ HM.out HV_8.out)
    have HVR := Lib.hid (refValid_any xs _ c _ HM.out HA_8.out)
    generalize (checkS xs == 0) = bz at HVA HVR
    have tz : (bz == bz) = true := by simp
    go_wp2_with fail
    refine HVA.out.mono ?_
    rintro e w' ⟨rfl, rfl⟩
    go_wp2_with fail
    refine (HVR.out).mono ?_
    rintro e w9 ⟨rfl, hb9⟩
    have HA_9 := Lib.hid (HA_8.out.up hb9)
    have HT_9 := Lib.hid (HT_8.out.up hb9)
    have HU_9 := Lib.hid (HU_8.out.up hb9)
    have HV_9 := Lib.hid (HV_8.out.up hb9)
    have HO1_9 := Lib.hid (HO1_8.out.below hb9 (Nat.le_refl _))
    have HO2_9 := Lib.hid (HO2_8.out.below hb9 (Nat.le_refl _))
    have HO3_9 := Lib.hid (HO3_8.out.below hb9 (Nat.le_refl _))
    have HO4_9 := Lib.hid (HO4_8.out.below hb9 (Nat.le_refl _))
    have HB9 := Lib.hid (HB8.out.trans (hb9.mono HB8.out.size))
    clear HA_8 HT_8 HU_8 HV_8 HO1_8 HO2_8 HO3_8 HO4_8 hb9 HB8
    go_wp2_with fail
    refine (sameOwnL _ _ _ _ _ _ HL1.out HL2.out HO1_9.out HO2_9.out).mono ?_
    rintro e w10 ⟨rfl, hb10⟩
    have HA_10 := Lib.hid (HA_9.out.up hb10)
    have HT_10 := Lib.hid (HT_9.out.up hb10)
    have HU_10 := Lib.hid (HU_9.out.up hb10)
    have HV_10 := Lib.hid (HV_9.out.up hb10)
    have HO1_10 := Lib.hid (HO1_9.out.below hb10 (Nat.le_refl _))
    have HO2_10 := Lib.hid (HO2_9.out.below hb10 (Nat.le_refl _))
    have HO3_10 := Lib.hid (HO3_9.out.below hb10 (Nat.le_refl _))
    have HO4_10 := Lib.hid (HO4_9.out.below hb10 (Nat.le_refl _))
    have HB10 := Lib.hid (HB9.out.trans (hb10.mono HB9.out.size))
    clear HA_9 HT_9 HU_9 HV_9 HO1_9 HO2_9 HO3_9 HO4_9 hb10 HB9
    go_wp2_with fail
    refine (sameOwn _ _ _ _ _ _ HL3.out HO3_10.out HO4_10.out).mono ?_
    rintro e w11 ⟨rfl, hb11⟩
    have HA_11 := Lib.hid (HA_10.out.up hb11)
    have HT_11 := Lib.hid (HT_10.out.up hb11)
    have HU_11 := Lib.hid (HU_10.out.up hb11)
    have HV_11 := Lib.hid (HV_10.out.up hb11)
    have HO1_11 := Lib.hid (HO1_10.out.below hb11 (Nat.le_refl _))
    have HO2_11 := Lib.hid (HO2_10.out.below hb11 (Nat.le_refl _))
    have HO3_11 := Lib.hid (HO3_10.out.below hb11 (Nat.le_refl _))
    have HO4_11 := Lib.hid (HO4_10.out.below hb11 (Nat.le_refl _))
    have HB11 := Lib.hid (HB10.out.trans (hb11.mono HB10.out.size))
    clear HA_10 HT_10 HU_10 HV_10 HO1_10 HO2_10 HO3_10 HO4_10 hb11 HB10
    go_wp2_with fail
    go_ret
    exact ⟨rfl, HB11.out⟩

end Go.Proofs.Ytdflgcfjfgojkaa
namespace Go.Proofs.Ytdflgcfjfgojkaa.partitionValid
open Go.ChangeShapes Go.WideShapes Go.ChangeAt Go.RowKit

set_option maxRecDepth 100000 in
theorem lifted (os : Os) (started : os.Started) (H : Type) (enc : TypeId × Value → H) :
    ReturnsInHanded {} Try.checked os 3 .any (Rows.partitionValidSpec.pre6 enc Try.prog Try.f3 Rows.partitionValidRow.domain false) (Rows.partitionValidSpec.post enc Try.prog Try.f3 false true false false) := by
  refine returnsInHanded_of_change (C := Try.checked) ownNone started (by kernel_rfl) Try.func3
    (ChangeSpec.witness6 (enc := enc) (C := Try.checked) false ⟨#[], #[.slice none 0 0], []⟩ 8 (by kernel_rfl) (by kernel_rfl) (by kernel_rfl) (by kernel_rfl)) ?_
  intro W base args ds gs before hval0 hW hcnd _
  have hval : ∀ (j : Nat) t v, Try.f3.params[j]? = some t → args[j]? = some v → Value.okWide Try.prog W .any base t v := hval0
  have hW' := hW
  obtain ⟨p, q, hA0, hV, rfl, hfz, hnd⟩ := hW
  have hA : DataW.TrodAll enc Try.prog W 0 (fun _ => true) true Try.f3.params.toList args.toList ds p := hA0
  rw [Try.params3] at hA hval
  obtain ⟨v0, d0, rfl, rfl, h0⟩ := trodAll_one hA
  obtain ⟨rfl, rfl⟩ := trodVars_none hV
  clear hA0 hval0
  simp only [List.append_nil] at hW'
  have hlt : ∀ x ∈ p, x.block < W.heap.size := fun x hx => by simpa using hW'.lt x (by simpa using hx)
  have k0 := h0
  obtain ⟨a0, len0, cap0, rfl⟩ := okWide_slice Try.underlying22 (hval 0 22 v0 rfl rfl)
  obtain ⟨f0, g0⟩ := h0
  obtain ⟨A0, xs0, c0, e0, hT0, hl0⟩ := open_i g0
  simp [Value.cells] at e0
  obtain ⟨rfl, rfl, rfl⟩ := e0
  refine (lawValid xs0 a0 cap0 W hl0 hT0).mono fun e W' ⟨he, hg⟩ => ?_
  subst he
  exact ⟨_, rfl, _, _, _, [], p, [], hW', trodAll_cons_mk (shut_bool Try.underlying4 _) trodAll_mk0, trodAll_mk1 (Below.trod laidOut (by kernel_rfl) (of_decide_eq_true (by kernel_rfl)) k0 hg (fun x hx => hlt x (hx))), rfl, hg.frame _, fun h => by cases h⟩

theorem over : Rows.partitionValidRow.holds Try.pinned (OpenSpec.ofChange Rows.partitionValidSpec) :=
  OpenClaim.holds_of_wide 3 Try.f3 rfl rfl rfl rfl rfl rfl rfl ⟨rfl, rfl, rfl, rfl, rfl⟩ rfl rfl rfl rfl rfl (by kernel_rfl) Try.func3 (by kernel_rfl)
    (of_decide_eq_true (by kernel_rfl)) (by unfold Func.isWrapper; first | (rw [if_pos (by decide +kernel)]; kernel_rfl) | (rw [if_neg (by decide +kernel)]; exact ⟨rfl, rfl⟩))
    (fun os started H enc _ => lifted os started H enc)

theorem proved : Rows.PartitionValidSaid := over

end Go.Proofs.Ytdflgcfjfgojkaa.partitionValid
