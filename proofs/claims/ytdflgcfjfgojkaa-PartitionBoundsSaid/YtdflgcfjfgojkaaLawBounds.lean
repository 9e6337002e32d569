/-
  PartitionBounds: for every three slices of bytes the law returns true. No condition.
-/
import Derived.Test.YtdflgcfjfgojkaaUni
import Derived.Test.YtdflgcfjfgojkaaOpen
import Derived.Deep.RegionHeld3
import Derived.Deep.DeepCutAuto
namespace Go.Proofs.Ytdflgcfjfgojkaa
open Go.RowKit

theorem made_take (bs : List Nat) (A : Option Addr) (c n : Nat) (w : World) (hl : bs.length ≤ maxLen) (hn : n ≤ bs.length) (hT : Byts w w.heap.size A bs) :
    ∀ W, Below w.heap.size w W → Calls Try.prog 29 #[.slice A n c] W fun e w' => ∃ v, e = .returned v ∧ Own w' W.heap.size v (madeS (bs.take n)) ∧ Below W.heap.size W w' ∧ Below w.heap.size w w' := by
  intro W hb
  have h1 : (bs.take n).length = n := by rw [List.length_take]; omega
  have := made_any (bs.take n) A c W (by omega) ((hT.up hb).take n)
  rw [h1] at this
  refine this.mono ?_
  rintro e w' ⟨v, rfl, ho, hb2⟩
  exact ⟨v, rfl, ho, hb2, hb.trans (hb2.mono hb.size)⟩

set_option maxRecDepth 100000 in
set_option maxHeartbeats 16000000 in
theorem lawBounds (xs : List Nat) (A : Option Addr) (c : Nat) (ys : List Nat) (A' : Option Addr) (c' : Nat) (zs : List Nat) (A2 : Option Addr) (c2 : Nat) (w : World)
    (hx : xs.length ≤ maxLen) (hxc : xs.length ≤ c) (hA : Byts w w.heap.size A xs) (hy : ys.length ≤ maxLen) (hyc : ys.length ≤ c') (hB : Byts w w.heap.size A' ys) (hz : zs.length ≤ maxLen) (hzc : zs.length ≤ c2) (hC : Byts w w.heap.size A2 zs) :
    Calls Try.prog 6 #[.slice A xs.length c, .slice A' ys.length c', .slice A2 zs.length c2] w fun e w' => e = .returned (.bool true) ∧ Below w.heap.size w w' := by
  have HA := Lib.hid (fun n hn => made_take xs A c n w hx hn hA)
  have HB := Lib.hid (fun n hn => made_take ys A' c' n w hy hn hB)
  have HC := Lib.hid (fun n hn => made_take zs A2 c2 n w hz hn hC)
  unfold maxLen at hx hy hz
  clear hA hB hC
  go_enter Try.func6, Try.ntmps6
  go_wp2_with fail
  refine (awake_any _).mono ?_
  rintro e w1 ⟨rfl, hb1⟩
  have HB1 := Lib.hid hb1
  clear hb1
  go_upto_region 3 with (fail)
  go_cut [7] (fun v wx => ∃ n : Nat, v = .int .i64 n ∧ n ≤ xs.length ∧ n ≤ ys.length ∧ n ≤ zs.length ∧ wx = w1)
  case first =>
    go_wp2_with fail
    all_goals
      go_meet
      case rel => exact ⟨_, rfl, by omega, by omega, by omega, rfl⟩
  case rest =>
    obtain ⟨n, rfl, h1, h2, h3, rfl⟩ := hcut
    have HA' := Lib.hid (HA.out n h1)
    have HB' := Lib.hid (HB.out n h2)
    have HC' := Lib.hid (HC.out n h3)
    have hS : Below w.heap.size w wc := HB1.out
    have i0 : (0 : Int) ≤ (n : Int) := by omega
    have i1 : (n : Int) ≤ (c : Int) := by omega
    have i2 : (n : Int) ≤ (c' : Int) := by omega
    have i3 : (n : Int) ≤ (c2 : Int) := by omega
    clear HA HB HC
    go_wp2_with fail
    go_region_held3 (fun W => Below w.heap.size w W) (first | assumption | (exact Below.drew (by assumption)))
      (first
        | (go_at_call 29; (with_reducible refine (HA'.out _ (by assumption)).mono ?_); rintro e wa ⟨va, rfl, hoa, hba, hsa⟩)
        | (go_at_call 29; (with_reducible refine (HB'.out _ (by assumption)).mono ?_); rintro e wb ⟨vb, rfl, hob, hbb, hsb⟩)
        | (go_at_call 29; (with_reducible refine (HC'.out _ (by assumption)).mono ?_); rintro e wd ⟨vc, rfl, hoc, hbc, hsc⟩))
    have e1 : (madeS (xs.take n)).length = min n 12 := by rw [madeS_length, List.length_take]; omega
    have e2 : (madeS (ys.take n)).length = min n 12 := by rw [madeS_length, List.length_take]; omega
    have e3 : (madeS (zs.take n)).length = min n 12 := by rw [madeS_length, List.length_take]; omega
    have HOA := Lib.hid ((hoa.below hbb (Nat.le_refl _)).below hbc (Nat.le_refl _))
    have HOB := Lib.hid (hob.below hbc (Nat.le_refl _))
    have HOC := Lib.hid hoc
    have HBS := Lib.hid hsc
    have HV1 := Lib.hid (V_made (xs.take n))
    have HV2 := Lib.hid (V_made (ys.take n))
    have HV3 := Lib.hid (V_made (zs.take n))
    have HE1 := Lib.hid (e1.trans e2.symm)
    have HE2 := Lib.hid (e2.trans e3.symm)
    have HE3 := Lib.hid (show (madeS (xs.take n)).length ≤ 80 by omega)
    clear hoa hba hsa hob hbb hsb hoc hbc hsc e1 e2 e3 hS HA' HB' HC' HB1
    generalize madeS (xs.take n) = us at HOA HV1 HE1 HE3
    generalize madeS (ys.take n) = vs at HOB HV2 HE1 HE2
    generalize madeS (zs.take n) = ts at HOC HV3 HE2
    have HL80 := Lib.hid (show vs.length ≤ 80 by have := HE1.out; have := HE3.out; omega)
    have HT80 := Lib.hid (show ts.length ≤ 80 by have := HE2.out; have := HL80.out; omega)
    obtain ⟨j1, j2, j3, j4⟩ := join_all HV1.out HV2.out HE1.out
    obtain ⟨m1, m2, m3, m4⟩ := meet_all (a := us) (b := vs)
    have HJ1 := Lib.hid j1
    have HJ2 := Lib.hid j2
    have HJ3 := Lib.hid j3
    have HJ4 := Lib.hid j4
    have HM1 := Lib.hid m1
    have HM2 := Lib.hid m2
    have HM3 := Lib.hid m3
    have HM4 := Lib.hid m4
    have HJL := Lib.hid (joinS_length us vs)
    have HML := Lib.hid (meetS_length us vs)
    clear j1 j2 j3 j4 m1 m2 m3 m4
    go_wp2_with fail
    refine (joinO us vs _ _ _ _ _ HV1.out HV2.out HE1.out HE3.out HOA.out HOB.out).mono ?_
    rintro e w1 ⟨vj, rfl, hoj, hb1⟩
    have HOA_1 := Lib.hid (HOA.out.below hb1 (Nat.le_refl _))
    have HOB_1 := Lib.hid (HOB.out.below hb1 (Nat.le_refl _))
    have HOC_1 := Lib.hid (HOC.out.below hb1 (Nat.le_refl _))
    have HB1 := Lib.hid (HBS.out.trans (hb1.mono HBS.out.size))
    have HOJ_1 := Lib.hid hoj
    clear HOA HOB HOC HBS hoj hb1
    go_wp2_with fail
    refine (meetO us vs _ _ _ _ _ HV1.out HV2.out HE1.out HE3.out HOA_1.out HOB_1.out).mono ?_
    rintro e w2 ⟨vm, rfl, hom, hb2⟩
    have HOA_2 := Lib.hid (HOA_1.out.below hb2 (Nat.le_refl _))
    have HOB_2 := Lib.hid (HOB_1.out.below hb2 (Nat.le_refl _))
    have HOC_2 := Lib.hid (HOC_1.out.below hb2 (Nat.le_refl _))
    have HOJ_2 := Lib.hid (HOJ_1.out.below hb2 (Nat.le_refl _))
    have HB2 := Lib.hid (HB1.out.trans (hb2.mono HB1.out.size))
    have HOM_2 := Lib.hid hom
    clear HOA_1 HOB_1 HOC_1 HOJ_1 HB1 hom hb2
    go_wp2_with fail
    refine (finerYes us (joinS us vs) _ _ _ _ _ HV1.out HJ1.out HJL.out.symm HE3.out HJ2.out HOA_2.out HOJ_2.out).mono ?_
    rintro e w3 ⟨rfl, hb3⟩
    have HOA_3 := Lib.hid (HOA_2.out.below hb3 (Nat.le_refl _))
    have HOB_3 := Lib.hid (HOB_2.out.below hb3 (Nat.le_refl _))
    have HOC_3 := Lib.hid (HOC_2.out.below hb3 (Nat.le_refl _))
    have HOJ_3 := Lib.hid (HOJ_2.out.below hb3 (Nat.le_refl _))
    have HOM_3 := Lib.hid (HOM_2.out.below hb3 (Nat.le_refl _))
    have HB3 := Lib.hid (HB2.out.trans (hb3.mono HB2.out.size))
    clear HOA_2 HOB_2 HOC_2 HOJ_2 HOM_2 HB2 hb3
    go_wp2_with fail
    refine (finerYes vs (joinS us vs) _ _ _ _ _ HV2.out HJ1.out (HE1.out.symm.trans HJL.out.symm) HL80.out HJ3.out HOB_3.out HOJ_3.out).mono ?_
    rintro e w4 ⟨rfl, hb4⟩
    have HOA_4 := Lib.hid (HOA_3.out.below hb4 (Nat.le_refl _))
    have HOB_4 := Lib.hid (HOB_3.out.below hb4 (Nat.le_refl _))
    have HOC_4 := Lib.hid (HOC_3.out.below hb4 (Nat.le_refl _))
    have HOJ_4 := Lib.hid (HOJ_3.out.below hb4 (Nat.le_refl _))
    have HOM_4 := Lib.hid (HOM_3.out.below hb4 (Nat.le_refl _))
    have HB4 := Lib.hid (HB3.out.trans (hb4.mono HB3.out.size))
    clear HOA_3 HOB_3 HOC_3 HOJ_3 HOM_3 HB3 hb4
    go_wp2_with fail
    refine (finerYes (meetS us vs) us _ _ _ _ _ HM1.out HV1.out HML.out (by rw [HML.out]; exact HE3.out) HM2.out HOM_4.out HOA_4.out).mono ?_
    rintro e w5 ⟨rfl, hb5⟩
    have HOA_5 := Lib.hid (HOA_4.out.below hb5 (Nat.le_refl _))
    have HOB_5 := Lib.hid (HOB_4.out.below hb5 (Nat.le_refl _))
    have HOC_5 := Lib.hid (HOC_4.out.below hb5 (Nat.le_refl _))
    have HOJ_5 := Lib.hid (HOJ_4.out.below hb5 (Nat.le_refl _))
    have HOM_5 := Lib.hid (HOM_4.out.below hb5 (Nat.le_refl _))
    have HB5 := Lib.hid (HB4.out.trans (hb5.mono HB4.out.size))
    clear HOA_4 HOB_4 HOC_4 HOJ_4 HOM_4 HB4 hb5
    go_wp2_with fail
    refine (finerYes (meetS us vs) vs _ _ _ _ _ HM1.out HV2.out (HML.out.trans HE1.out) (by rw [HML.out]; exact HE3.out) HM3.out HOM_5.out HOB_5.out).mono ?_
    rintro e w6 ⟨rfl, hb6⟩
    have HOA_6 := Lib.hid (HOA_5.out.below hb6 (Nat.le_refl _))
    have HOB_6 := Lib.hid (HOB_5.out.below hb6 (Nat.le_refl _))
    have HOC_6 := Lib.hid (HOC_5.out.below hb6 (Nat.le_refl _))
    have HOJ_6 := Lib.hid (HOJ_5.out.below hb6 (Nat.le_refl _))
    have HOM_6 := Lib.hid (HOM_5.out.below hb6 (Nat.le_refl _))
    have HB6 := Lib.hid (HB5.out.trans (hb6.mono HB5.out.size))
    clear HOA_5 HOB_5 HOC_5 HOJ_5 HOM_5 HB5 hb6
    by_cases f1 : F us ts
    · have F1 := Lib.hid f1
      clear f1
      go_wp2_with fail
      refine (finerYes us ts _ _ _ _ _ HV1.out HV3.out (HE1.out.trans HE2.out) HE3.out F1.out HOA_6.out HOC_6.out).mono ?_
      rintro e w7 ⟨rfl, hb7⟩
      have HOA_7 := Lib.hid (HOA_6.out.below hb7 (Nat.le_refl _))
      have HOB_7 := Lib.hid (HOB_6.out.below hb7 (Nat.le_refl _))
      have HOC_7 := Lib.hid (HOC_6.out.below hb7 (Nat.le_refl _))
      have HOJ_7 := Lib.hid (HOJ_6.out.below hb7 (Nat.le_refl _))
      have HOM_7 := Lib.hid (HOM_6.out.below hb7 (Nat.le_refl _))
      have HB7 := Lib.hid (HB6.out.trans (hb7.mono HB6.out.size))
      clear HOA_6 HOB_6 HOC_6 HOJ_6 HOM_6 HB6 hb7
      by_cases f2 : F vs ts
      · have F2 := Lib.hid f2
        clear f2
        go_wp2_with fail
        refine (finerYes vs ts _ _ _ _ _ HV2.out HV3.out HE2.out HL80.out F2.out HOB_7.out HOC_7.out).mono ?_
        rintro e w8 ⟨rfl, hb8⟩
        have HOA_8 := Lib.hid (HOA_7.out.below hb8 (Nat.le_refl _))
        have HOB_8 := Lib.hid (HOB_7.out.below hb8 (Nat.le_refl _))
        have HOC_8 := Lib.hid (HOC_7.out.below hb8 (Nat.le_refl _))
        have HOJ_8 := Lib.hid (HOJ_7.out.below hb8 (Nat.le_refl _))
        have HOM_8 := Lib.hid (HOM_7.out.below hb8 (Nat.le_refl _))
        have HB8 := Lib.hid (HB7.out.trans (hb8.mono HB7.out.size))
        clear HOA_7 HOB_7 HOC_7 HOJ_7 HOM_7 HB7 hb8
        go_wp2_with fail
        refine (finerYes (joinS us vs) ts _ _ _ _ _ HJ1.out HV3.out (HJL.out.trans (HE1.out.trans HE2.out)) (by rw [HJL.out]; exact HE3.out) (HJ4.out ts F1.out F2.out) HOJ_8.out HOC_8.out).mono ?_
        rintro e w9 ⟨rfl, hb9⟩
        have HOA_9 := Lib.hid (HOA_8.out.below hb9 (Nat.le_refl _))
        have HOB_9 := Lib.hid (HOB_8.out.below hb9 (Nat.le_refl _))
        have HOC_9 := Lib.hid (HOC_8.out.below hb9 (Nat.le_refl _))
        have HOJ_9 := Lib.hid (HOJ_8.out.below hb9 (Nat.le_refl _))
        have HOM_9 := Lib.hid (HOM_8.out.below hb9 (Nat.le_refl _))
        have HB9 := Lib.hid (HB8.out.trans (hb9.mono HB8.out.size))
        clear HOA_8 HOB_8 HOC_8 HOJ_8 HOM_8 HB8 hb9
        by_cases k1 : F ts us
        · have K1 := Lib.hid k1
          clear k1
          go_wp2_with fail
          refine (finerYes ts us _ _ _ _ _ HV3.out HV1.out (HE1.out.trans HE2.out).symm HT80.out K1.out HOC_9.out HOA_9.out).mono ?_
          rintro e w10 ⟨rfl, hb10⟩
          have HOA_10 := Lib.hid (HOA_9.out.below hb10 (Nat.le_refl _))
          have HOB_10 := Lib.hid (HOB_9.out.below hb10 (Nat.le_refl _))
          have HOC_10 := Lib.hid (HOC_9.out.below hb10 (Nat.le_refl _))
          have HOJ_10 := Lib.hid (HOJ_9.out.below hb10 (Nat.le_refl _))
          have HOM_10 := Lib.hid (HOM_9.out.below hb10 (Nat.le_refl _))
          have HB10 := Lib.hid (HB9.out.trans (hb10.mono HB9.out.size))
          clear HOA_9 HOB_9 HOC_9 HOJ_9 HOM_9 HB9 hb10
          by_cases k2 : F ts vs
          · have K2 := Lib.hid k2
            clear k2
            go_wp2_with fail
            refine (finerYes ts vs _ _ _ _ _ HV3.out HV2.out HE2.out.symm HT80.out K2.out HOC_10.out HOB_10.out).mono ?_
            rintro e w11 ⟨rfl, hb11⟩
            have HOA_11 := Lib.hid (HOA_10.out.below hb11 (Nat.le_refl _))
            have HOB_11 := Lib.hid (HOB_10.out.below hb11 (Nat.le_refl _))
            have HOC_11 := Lib.hid (HOC_10.out.below hb11 (Nat.le_refl _))
            have HOJ_11 := Lib.hid (HOJ_10.out.below hb11 (Nat.le_refl _))
            have HOM_11 := Lib.hid (HOM_10.out.below hb11 (Nat.le_refl _))
            have HB11 := Lib.hid (HB10.out.trans (hb11.mono HB10.out.size))
            clear HOA_10 HOB_10 HOC_10 HOJ_10 HOM_10 HB10 hb11
            go_wp2_with fail
            refine (finerYes ts (meetS us vs) _ _ _ _ _ HV3.out HM1.out ((HE1.out.trans HE2.out).symm.trans HML.out.symm) HT80.out (HM4.out ts HV3.out (HE1.out.trans HE2.out).symm K1.out K2.out) HOC_11.out HOM_11.out).mono ?_
            rintro e w12 ⟨rfl, hb12⟩
            have HOA_12 := Lib.hid (HOA_11.out.below hb12 (Nat.le_refl _))
            have HOB_12 := Lib.hid (HOB_11.out.below hb12 (Nat.le_refl _))
            have HOC_12 := Lib.hid (HOC_11.out.below hb12 (Nat.le_refl _))
            have HOJ_12 := Lib.hid (HOJ_11.out.below hb12 (Nat.le_refl _))
            have HOM_12 := Lib.hid (HOM_11.out.below hb12 (Nat.le_refl _))
            have HB12 := Lib.hid (HB11.out.trans (hb12.mono HB11.out.size))
            clear HOA_11 HOB_11 HOC_11 HOJ_11 HOM_11 HB11 hb12
            go_wp2_with fail
            go_ret
            exact ⟨rfl, HB12.out⟩
          · have K2 := Lib.hid k2
            clear k2
            go_wp2_with fail
            refine (finerNo ts vs _ _ _ _ _ HV3.out HV2.out HE2.out.symm HT80.out K2.out HOC_10.out HOB_10.out).mono ?_
            rintro e w11 ⟨rfl, hb11⟩
            have HOA_11 := Lib.hid (HOA_10.out.below hb11 (Nat.le_refl _))
            have HOB_11 := Lib.hid (HOB_10.out.below hb11 (Nat.le_refl _))
            have HOC_11 := Lib.hid (HOC_10.out.below hb11 (Nat.le_refl _))
            have HOJ_11 := Lib.hid (HOJ_10.out.below hb11 (Nat.le_refl _))
            have HOM_11 := Lib.hid (HOM_10.out.below hb11 (Nat.le_refl _))
            have HB11 := Lib.hid (HB10.out.trans (hb11.mono HB10.out.size))
            clear HOA_10 HOB_10 HOC_10 HOJ_10 HOM_10 HB10 hb11
            go_wp2_with fail
            go_ret
            exact ⟨rfl, HB11.out⟩
        · have K1 := Lib.hid k1
          clear k1
          go_wp2_with fail
          refine (finerNo ts us _ _ _ _ _ HV3.out HV1.out (HE1.out.trans HE2.out).symm HT80.out K1.out HOC_9.out HOA_9.out).mono ?_
          rintro e w10 ⟨rfl, hb10⟩
          have HOA_10 := Lib.hid (HOA_9.out.below hb10 (Nat.le_refl _))
          have HOB_10 := Lib.hid (HOB_9.out.below hb10 (Nat.le_refl _))
          have HOC_10 := Lib.hid (HOC_9.out.below hb10 (Nat.le_refl _))
          have HOJ_10 := Lib.hid (HOJ_9.out.below hb10 (Nat.le_refl _))
          have HOM_10 := Lib.hid (HOM_9.out.below hb10 (Nat.le_refl _))
          have HB10 := Lib.hid (HB9.out.trans (hb10.mono HB9.out.size))
          clear HOA_9 HOB_9 HOC_9 HOJ_9 HOM_9 HB9 hb10
          go_wp2_with fail
          go_ret
          exact ⟨rfl, HB10.out⟩
      · have F2 := Lib.hid f2
        clear f2
        go_wp2_with fail
        refine (finerNo vs ts _ _ _ _ _ HV2.out HV3.out HE2.out HL80.out F2.out HOB_7.out HOC_7.out).mono ?_
        rintro e w8 ⟨rfl, hb8⟩
        have HOA_8 := Lib.hid (HOA_7.out.below hb8 (Nat.le_refl _))
        have HOB_8 := Lib.hid (HOB_7.out.below hb8 (Nat.le_refl _))
        have HOC_8 := Lib.hid (HOC_7.out.below hb8 (Nat.le_refl _))
        have HOJ_8 := Lib.hid (HOJ_7.out.below hb8 (Nat.le_refl _))
        have HOM_8 := Lib.hid (HOM_7.out.below hb8 (Nat.le_refl _))
        have HB8 := Lib.hid (HB7.out.trans (hb8.mono HB7.out.size))
        clear HOA_7 HOB_7 HOC_7 HOJ_7 HOM_7 HB7 hb8
        by_cases k1 : F ts us
        · have K1 := Lib.hid k1
          clear k1
          go_wp2_with fail
          refine (finerYes ts us _ _ _ _ _ HV3.out HV1.out (HE1.out.trans HE2.out).symm HT80.out K1.out HOC_8.out HOA_8.out).mono ?_
          rintro e w9 ⟨rfl, hb9⟩
          have HOA_9 := Lib.hid (HOA_8.out.below hb9 (Nat.le_refl _))
          have HOB_9 := Lib.hid (HOB_8.out.below hb9 (Nat.le_refl _))
          have HOC_9 := Lib.hid (HOC_8.out.below hb9 (Nat.le_refl _))
          have HOJ_9 := Lib.hid (HOJ_8.out.below hb9 (Nat.le_refl _))
          have HOM_9 := Lib.hid (HOM_8.out.below hb9 (Nat.le_refl _))
          have HB9 := Lib.hid (HB8.out.trans (hb9.mono HB8.out.size))
          clear HOA_8 HOB_8 HOC_8 HOJ_8 HOM_8 HB8 hb9
          by_cases k2 : F ts vs
          · have K2 := Lib.hid k2
            clear k2
            go_wp2_with fail
            refine (finerYes ts vs _ _ _ _ _ HV3.out HV2.out HE2.out.symm HT80.out K2.out HOC_9.out HOB_9.out).mono ?_
            rintro e w10 ⟨rfl, hb10⟩
            have HOA_10 := Lib.hid (HOA_9.out.below hb10 (Nat.le_refl _))
            have HOB_10 := Lib.hid (HOB_9.out.below hb10 (Nat.le_refl _))
            have HOC_10 := Lib.hid (HOC_9.out.below hb10 (Nat.le_refl _))
            have HOJ_10 := Lib.hid (HOJ_9.out.below hb10 (Nat.le_refl _))
            have HOM_10 := Lib.hid (HOM_9.out.below hb10 (Nat.le_refl _))
            have HB10 := Lib.hid (HB9.out.trans (hb10.mono HB9.out.size))
            clear HOA_9 HOB_9 HOC_9 HOJ_9 HOM_9 HB9 hb10
            go_wp2_with fail
            refine (finerYes ts (meetS us vs) _ _ _ _ _ HV3.out HM1.out ((HE1.out.trans HE2.out).symm.trans HML.out.symm) HT80.out (HM4.out ts HV3.out (HE1.out.trans HE2.out).symm K1.out K2.out) HOC_10.out HOM_10.out).mono ?_
            rintro e w11 ⟨rfl, hb11⟩
            have HOA_11 := Lib.hid (HOA_10.out.below hb11 (Nat.le_refl _))
            have HOB_11 := Lib.hid (HOB_10.out.below hb11 (Nat.le_refl _))
            have HOC_11 := Lib.hid (HOC_10.out.below hb11 (Nat.le_refl _))
            have HOJ_11 := Lib.hid (HOJ_10.out.below hb11 (Nat.le_refl _))
            have HOM_11 := Lib.hid (HOM_10.out.below hb11 (Nat.le_refl _))
            have HB11 := Lib.hid (HB10.out.trans (hb11.mono HB10.out.size))
            clear HOA_10 HOB_10 HOC_10 HOJ_10 HOM_10 HB10 hb11
            go_wp2_with fail
            go_ret
            exact ⟨rfl, HB11.out⟩
          · have K2 := Lib.hid k2
            clear k2
            go_wp2_with fail
            refine (finerNo ts vs _ _ _ _ _ HV3.out HV2.out HE2.out.symm HT80.out K2.out HOC_9.out HOB_9.out).mono ?_
            rintro e w10 ⟨rfl, hb10⟩
            have HOA_10 := Lib.hid (HOA_9.out.below hb10 (Nat.le_refl _))
            have HOB_10 := Lib.hid (HOB_9.out.below hb10 (Nat.le_refl _))
            have HOC_10 := Lib.hid (HOC_9.out.below hb10 (Nat.le_refl _))
            have HOJ_10 := Lib.hid (HOJ_9.out.below hb10 (Nat.le_refl _))
            have HOM_10 := Lib.hid (HOM_9.out.below hb10 (Nat.le_refl _))
            have HB10 := Lib.hid (HB9.out.trans (hb10.mono HB9.out.size))
            clear HOA_9 HOB_9 HOC_9 HOJ_9 HOM_9 HB9 hb10
            go_wp2_with fail
            go_ret
            exact ⟨rfl, HB10.out⟩
        · have K1 := Lib.hid k1
          clear k1
          go_wp2_with fail
          refine (finerNo ts us _ _ _ _ _ HV3.out HV1.out (HE1.out.trans HE2.out).symm HT80.out K1.out HOC_8.out HOA_8.out).mono ?_
          rintro e w9 ⟨rfl, hb9⟩
          have HOA_9 := Lib.hid (HOA_8.out.below hb9 (Nat.le_refl _))
          have HOB_9 := Lib.hid (HOB_8.out.below hb9 (Nat.le_refl _))
          have HOC_9 := Lib.hid (HOC_8.out.below hb9 (Nat.le_refl _))
          have HOJ_9 := Lib.hid (HOJ_8.out.below hb9 (Nat.le_refl _))
          have HOM_9 := Lib.hid (HOM_8.out.below hb9 (Nat.le_refl _))
          have HB9 := Lib.hid (HB8.out.trans (hb9.mono HB8.out.size))
          clear HOA_8 HOB_8 HOC_8 HOJ_8 HOM_8 HB8 hb9
          go_wp2_with fail
          go_ret
          exact ⟨rfl, HB9.out⟩
    · have F1 := Lib.hid f1
      clear f1
      go_wp2_with fail
      refine (finerNo us ts _ _ _ _ _ HV1.out HV3.out (HE1.out.trans HE2.out) HE3.out F1.out HOA_6.out HOC_6.out).mono ?_
      rintro e w7 ⟨rfl, hb7⟩
      have HOA_7 := Lib.hid (HOA_6.out.below hb7 (Nat.le_refl _))
      have HOB_7 := Lib.hid (HOB_6.out.below hb7 (Nat.le_refl _))
      have HOC_7 := Lib.hid (HOC_6.out.below hb7 (Nat.le_refl _))
      have HOJ_7 := Lib.hid (HOJ_6.out.below hb7 (Nat.le_refl _))
      have HOM_7 := Lib.hid (HOM_6.out.below hb7 (Nat.le_refl _))
      have HB7 := Lib.hid (HB6.out.trans (hb7.mono HB6.out.size))
      clear HOA_6 HOB_6 HOC_6 HOJ_6 HOM_6 HB6 hb7
      by_cases k1 : F ts us
      · have K1 := Lib.hid k1
        clear k1
        go_wp2_with fail
        refine (finerYes ts us _ _ _ _ _ HV3.out HV1.out (HE1.out.trans HE2.out).symm HT80.out K1.out HOC_7.out HOA_7.out).mono ?_
        rintro e w8 ⟨rfl, hb8⟩
        have HOA_8 := Lib.hid (HOA_7.out.below hb8 (Nat.le_refl _))
        have HOB_8 := Lib.hid (HOB_7.out.below hb8 (Nat.le_refl _))
        have HOC_8 := Lib.hid (HOC_7.out.below hb8 (Nat.le_refl _))
        have HOJ_8 := Lib.hid (HOJ_7.out.below hb8 (Nat.le_refl _))
        have HOM_8 := Lib.hid (HOM_7.out.below hb8 (Nat.le_refl _))
        have HB8 := Lib.hid (HB7.out.trans (hb8.mono HB7.out.size))
        clear HOA_7 HOB_7 HOC_7 HOJ_7 HOM_7 HB7 hb8
        by_cases k2 : F ts vs
        · have K2 := Lib.hid k2
          clear k2
          go_wp2_with fail
          refine (finerYes ts vs _ _ _ _ _ HV3.out HV2.out HE2.out.symm HT80.out K2.out HOC_8.out HOB_8.out).mono ?_
          rintro e w9 ⟨rfl, hb9⟩
          have HOA_9 := Lib.hid (HOA_8.out.below hb9 (Nat.le_refl _))
          have HOB_9 := Lib.hid (HOB_8.out.below hb9 (Nat.le_refl _))
          have HOC_9 := Lib.hid (HOC_8.out.below hb9 (Nat.le_refl _))
          have HOJ_9 := Lib.hid (HOJ_8.out.below hb9 (Nat.le_refl _))
          have HOM_9 := Lib.hid (HOM_8.out.below hb9 (Nat.le_refl _))
          have HB9 := Lib.hid (HB8.out.trans (hb9.mono HB8.out.size))
          clear HOA_8 HOB_8 HOC_8 HOJ_8 HOM_8 HB8 hb9
          go_wp2_with fail
          refine (finerYes ts (meetS us vs) _ _ _ _ _ HV3.out HM1.out ((HE1.out.trans HE2.out).symm.trans HML.out.symm) HT80.out (HM4.out ts HV3.out (HE1.out.trans HE2.out).symm K1.out K2.out) HOC_9.out HOM_9.out).mono ?_
          rintro e w10 ⟨rfl, hb10⟩
          have HOA_10 := Lib.hid (HOA_9.out.below hb10 (Nat.le_refl _))
          have HOB_10 := Lib.hid (HOB_9.out.below hb10 (Nat.le_refl _))
          have HOC_10 := Lib.hid (HOC_9.out.below hb10 (Nat.le_refl _))
          have HOJ_10 := Lib.hid (HOJ_9.out.below hb10 (Nat.le_refl _))
          have HOM_10 := Lib.hid (HOM_9.out.below hb10 (Nat.le_refl _))
          have HB10 := Lib.hid (HB9.out.trans (hb10.mono HB9.out.size))
          clear HOA_9 HOB_9 HOC_9 HOJ_9 HOM_9 HB9 hb10
          go_wp2_with fail
          go_ret
          exact ⟨rfl, HB10.out⟩
        · have K2 := Lib.hid k2
          clear k2
          go_wp2_with fail
          refine (finerNo ts vs _ _ _ _ _ HV3.out HV2.out HE2.out.symm HT80.out K2.out HOC_8.out HOB_8.out).mono ?_
          rintro e w9 ⟨rfl, hb9⟩
          have HOA_9 := Lib.hid (HOA_8.out.below hb9 (Nat.le_refl _))
          have HOB_9 := Lib.hid (HOB_8.out.below hb9 (Nat.le_refl _))
          have HOC_9 := Lib.hid (HOC_8.out.below hb9 (Nat.le_refl _))
          have HOJ_9 := Lib.hid (HOJ_8.out.below hb9 (Nat.le_refl _))
          have HOM_9 := Lib.hid (HOM_8.out.below hb9 (Nat.le_refl _))
          have HB9 := Lib.hid (HB8.out.trans (hb9.mono HB8.out.size))
          clear HOA_8 HOB_8 HOC_8 HOJ_8 HOM_8 HB8 hb9
          go_wp2_with fail
          go_ret
          exact ⟨rfl, HB9.out⟩
      · have K1 := Lib.hid k1
        clear k1
        go_wp2_with fail
        refine (finerNo ts us _ _ _ _ _ HV3.out HV1.out (HE1.out.trans HE2.out).symm HT80.out K1.out HOC_7.out HOA_7.out).mono ?_
        rintro e w8 ⟨rfl, hb8⟩
        have HOA_8 := Lib.hid (HOA_7.out.below hb8 (Nat.le_refl _))
        have HOB_8 := Lib.hid (HOB_7.out.below hb8 (Nat.le_refl _))
        have HOC_8 := Lib.hid (HOC_7.out.below hb8 (Nat.le_refl _))
        have HOJ_8 := Lib.hid (HOJ_7.out.below hb8 (Nat.le_refl _))
        have HOM_8 := Lib.hid (HOM_7.out.below hb8 (Nat.le_refl _))
        have HB8 := Lib.hid (HB7.out.trans (hb8.mono HB7.out.size))
        clear HOA_7 HOB_7 HOC_7 HOJ_7 HOM_7 HB7 hb8
        go_wp2_with fail
        go_ret
        exact ⟨rfl, HB8.out⟩

end Go.Proofs.Ytdflgcfjfgojkaa
namespace Go.Proofs.Ytdflgcfjfgojkaa.partitionBounds
open Go.ChangeShapes Go.WideShapes Go.ChangeAt Go.RowKit

set_option maxRecDepth 100000 in
theorem lifted (os : Os) (started : os.Started) (H : Type) (enc : TypeId × Value → H) :
    ReturnsInHanded {} Try.checked os 6 .any (Rows.partitionBoundsSpec.pre6 enc Try.prog Try.f6 Rows.partitionBoundsRow.domain false) (Rows.partitionBoundsSpec.post enc Try.prog Try.f6 false true false false) := by
  refine returnsInHanded_of_change (C := Try.checked) ownNone started (by kernel_rfl) Try.func6
    (ChangeSpec.witness6 (enc := enc) (C := Try.checked) false ⟨#[], #[.slice none 0 0, .slice none 0 0, .slice none 0 0], []⟩ 8 (by kernel_rfl) (by kernel_rfl) (by kernel_rfl) (by kernel_rfl)) ?_
  intro W base args ds gs before hval0 hW hcnd _
  have hval : ∀ (j : Nat) t v, Try.f6.params[j]? = some t → args[j]? = some v → Value.okWide Try.prog W .any base t v := hval0
  have hW' := hW
  obtain ⟨p, q, hA0, hV, rfl, hfz, hnd⟩ := hW
  have hA : DataW.TrodAll enc Try.prog W 0 (fun _ => true) true Try.f6.params.toList args.toList ds p := hA0
  rw [Try.params6] at hA hval
  obtain ⟨v0, v1, v2, d0, d1, d2, p0, p1, p2, rfl, rfl, rfl, h0, h1, h2⟩ := trodAll_three hA
  obtain ⟨rfl, rfl⟩ := trodVars_none hV
  clear hA0 hval0
  simp only [List.append_nil] at hW'
  have hlt : ∀ x ∈ p0 ++ p1 ++ p2, x.block < W.heap.size := fun x hx => by simpa using hW'.lt x (by simpa using hx)
  have k0 := h0
  obtain ⟨a0, len0, cap0, rfl⟩ := okWide_slice Try.underlying39 (hval 0 39 v0 rfl rfl)
  obtain ⟨f0, g0⟩ := h0
  obtain ⟨A0, xs0, c0, e0, hT0, hl0, hm0⟩ := open_b g0
  simp [Value.cells] at e0
  obtain ⟨rfl, rfl, rfl⟩ := e0
  have k1 := h1
  obtain ⟨a1, len1, cap1, rfl⟩ := okWide_slice Try.underlying39 (hval 1 39 v1 rfl rfl)
  obtain ⟨f1, g1⟩ := h1
  obtain ⟨A1, xs1, c1, e1, hT1, hl1, hm1⟩ := open_b g1
  simp [Value.cells] at e1
  obtain ⟨rfl, rfl, rfl⟩ := e1
  have k2 := h2
  obtain ⟨a2, len2, cap2, rfl⟩ := okWide_slice Try.underlying39 (hval 2 39 v2 rfl rfl)
  obtain ⟨f2, g2⟩ := h2
  obtain ⟨A2, xs2, c2, e2, hT2, hl2, hm2⟩ := open_b g2
  simp [Value.cells] at e2
  obtain ⟨rfl, rfl, rfl⟩ := e2
  refine (lawBounds xs0 a0 cap0 xs1 a1 cap1 xs2 a2 cap2 W (Nat.le_trans hl0 hm0) hl0 hT0 (Nat.le_trans hl1 hm1) hl1 hT1 (Nat.le_trans hl2 hm2) hl2 hT2).mono fun e W' ⟨he, hg⟩ => ?_
  subst he
  exact ⟨_, rfl, _, _, _, [], p0 ++ p1 ++ p2, [], hW', trodAll_cons_mk (shut_bool Try.underlying4 _) trodAll_mk0, (by rw [List.append_assoc p0 p1 p2]; exact trodAll_mk3 (Below.trod laidOut (by kernel_rfl) (of_decide_eq_true (by kernel_rfl)) k0 hg (fun x hx => hlt x (List.mem_append_left _ (List.mem_append_left _ hx)))) (Below.trod laidOut (by kernel_rfl) (of_decide_eq_true (by kernel_rfl)) k1 hg (fun x hx => hlt x (List.mem_append_left _ (List.mem_append_right _ hx)))) (Below.trod laidOut (by kernel_rfl) (of_decide_eq_true (by kernel_rfl)) k2 hg (fun x hx => hlt x (List.mem_append_right _ hx)))), rfl, hg.frame _, fun h => by cases h⟩

theorem over : Rows.partitionBoundsRow.holds Try.pinned (OpenSpec.ofChange Rows.partitionBoundsSpec) :=
  OpenClaim.holds_of_wide 6 Try.f6 rfl rfl rfl rfl rfl rfl rfl ⟨rfl, rfl, rfl, rfl, rfl⟩ rfl rfl rfl rfl rfl (by kernel_rfl) Try.func6 (by kernel_rfl)
    (of_decide_eq_true (by kernel_rfl)) (by unfold Func.isWrapper; first | (rw [if_pos (by decide +kernel)]; kernel_rfl) | (rw [if_neg (by decide +kernel)]; exact ⟨rfl, rfl⟩))
    (fun os started H enc _ => lifted os started H enc)

theorem proved : Rows.PartitionBoundsSaid := over

end Go.Proofs.Ytdflgcfjfgojkaa.partitionBounds
