/-
  PartitionLattice: for every three slices of bytes the law returns true. No condition.
-/
import Derived.Test.YtdflgcfjfgojkaaUni
import Derived.Test.YtdflgcfjfgojkaaLat
import Derived.Test.YtdflgcfjfgojkaaOpen
import Derived.Deep.RegionHeld3
import Derived.Deep.DeepCutAuto
namespace Go.Proofs.Ytdflgcfjfgojkaa
open Go.RowKit

theorem made_take (bs : List Nat) (A : Option Addr) (c n : Nat) (w : World) (hl : bs.length ≤ maxLen) (hn : n ≤ bs.length) (hT : Byts w w.heap.size A bs) :
    ∀ W, Below w.heap.size w W → Calls Try.prog 29 #[.slice A n c] W fun e w' => ∃ v, e = .returned v ∧ Own w' W.heap.size v (madeS (bs.take n)) ∧ Below W.heap.size W w' ∧ Below w.heap.size w w' := by
  intro W hb
  have h1 : (bs.take n).length = n := by rw [List.length_take]; omega
  have := made_any (bs.take n) A c W (by omega) ((hT.up hb).take n)
  rw [h1] at this
  refine this.mono ?_
  rintro e w' ⟨v, rfl, ho, hb2⟩
  exact ⟨v, rfl, ho, hb2, hb.trans (hb2.mono hb.size)⟩

theorem joinA (us vs R : List Nat) (hR : joinS us vs = R) (v v' : Value) (base base' : Nat) (w : World) (ha : V us) (hb : V vs) (hl : us.length = vs.length) (h80 : us.length ≤ 80) (hA : Own w base v us) (hB : Own w base' v' vs) :
    Calls Try.prog 20 #[v, v'] w fun e w' => ∃ r, e = .returned (.tuple #[r, .int .i64 0]) ∧ Own w' w.heap.size r R ∧ Below w.heap.size w w' := hR ▸ joinO us vs v v' base base' w ha hb hl h80 hA hB
theorem meetA (us vs R : List Nat) (hR : meetS us vs = R) (v v' : Value) (base base' : Nat) (w : World) (ha : V us) (hb : V vs) (hl : us.length = vs.length) (h80 : us.length ≤ 80) (hA : Own w base v us) (hB : Own w base' v' vs) :
    Calls Try.prog 22 #[v, v'] w fun e w' => ∃ r, e = .returned (.tuple #[r, .int .i64 0]) ∧ Own w' w.heap.size r R ∧ Below w.heap.size w w' := hR ▸ meetO us vs v v' base base' w ha hb hl h80 hA hB
theorem equalNo (R S : List Nat) (v v' : Value) (base base' : Nat) (w : World) (hR : R.length ≤ 1000000) (hne : R ≠ S) (hA : Own w base v R) (hB : Own w base' v' S) :
    Calls Try.prog 19 #[v, v'] w fun e w' => e = .returned (.bool false) ∧ Below w.heap.size w w' := by
  refine (equalOwn R S v v' base base' w hR hA hB).mono ?_
  rintro e w' ⟨rfl, hb⟩
  exact ⟨ret_bool (decide_eq_false hne), hb⟩

set_option maxRecDepth 100000 in
set_option maxHeartbeats 16000000 in
theorem lawLattice (xs : List Nat) (A : Option Addr) (c : Nat) (ys : List Nat) (A' : Option Addr) (c' : Nat) (zs : List Nat) (A2 : Option Addr) (c2 : Nat) (w : World)
    (hx : xs.length ≤ maxLen) (hxc : xs.length ≤ c) (hA : Byts w w.heap.size A xs) (hy : ys.length ≤ maxLen) (hyc : ys.length ≤ c') (hB : Byts w w.heap.size A' ys) (hz : zs.length ≤ maxLen) (hzc : zs.length ≤ c2) (hC : Byts w w.heap.size A2 zs) :
    Calls Try.prog 7 #[.slice A xs.length c, .slice A' ys.length c', .slice A2 zs.length c2] w fun e w' => e = .returned (.bool true) ∧ Below w.heap.size w w' := by
  have HA := Lib.hid (fun n hn => made_take xs A c n w hx hn hA)
  have HB := Lib.hid (fun n hn => made_take ys A' c' n w hy hn hB)
  have HC := Lib.hid (fun n hn => made_take zs A2 c2 n w hz hn hC)
  unfold maxLen at hx hy hz
  clear hA hB hC
  go_enter Try.func7, Try.ntmps7
  go_wp2_with fail
  refine (awake_any _).mono ?_
  rintro e w1 ⟨rfl, hb1⟩
  have HB1 := Lib.hid hb1
  clear hb1
  go_upto_region 3 with (fail)
  go_cut [7] (fun v wx => ∃ n : Nat, v = .int .i64 n ∧ n ≤ xs.length ∧ n ≤ ys.length ∧ n ≤ zs.length ∧ wx = w1)
  case first =>
    go_wp2_with fail
    all_goals
      go_meet
      case rel => exact ⟨_, rfl, by omega, by omega, by omega, rfl⟩
  case rest =>
    obtain ⟨n, rfl, h1, h2, h3, rfl⟩ := hcut
    have HA' := Lib.hid (HA.out n h1)
    have HB' := Lib.hid (HB.out n h2)
    have HC' := Lib.hid (HC.out n h3)
    have hS : Below w.heap.size w wc := HB1.out
    have i0 : (0 : Int) ≤ (n : Int) := by omega
    have i1 : (n : Int) ≤ (c : Int) := by omega
    have i2 : (n : Int) ≤ (c' : Int) := by omega
    have i3 : (n : Int) ≤ (c2 : Int) := by omega
    clear HA HB HC
    go_wp2_with fail
    go_region_held3 (fun W => Below w.heap.size w W) (first | assumption | (exact Below.drew (by assumption)))
      (first
        | (go_at_call 29; (with_reducible refine (HA'.out _ (by assumption)).mono ?_); rintro e wa ⟨va, rfl, hoa, hba, hsa⟩)
        | (go_at_call 29; (with_reducible refine (HB'.out _ (by assumption)).mono ?_); rintro e wb ⟨vb, rfl, hob, hbb, hsb⟩)
        | (go_at_call 29; (with_reducible refine (HC'.out _ (by assumption)).mono ?_); rintro e wd ⟨vc, rfl, hoc, hbc, hsc⟩))
    have e1 : (madeS (xs.take n)).length = min n 12 := by rw [madeS_length, List.length_take]; omega
    have e2 : (madeS (ys.take n)).length = min n 12 := by rw [madeS_length, List.length_take]; omega
    have e3 : (madeS (zs.take n)).length = min n 12 := by rw [madeS_length, List.length_take]; omega
    have HOA := Lib.hid ((hoa.below hbb (Nat.le_refl _)).below hbc (Nat.le_refl _))
    have HOB := Lib.hid (hob.below hbc (Nat.le_refl _))
    have HOC := Lib.hid hoc
    have HBS := Lib.hid hsc
    have HV1 := Lib.hid (V_made (xs.take n))
    have HV2 := Lib.hid (V_made (ys.take n))
    have HV3 := Lib.hid (V_made (zs.take n))
    have HE1 := Lib.hid (e1.trans e2.symm)
    have HE2 := Lib.hid (e2.trans e3.symm)
    have HE3 := Lib.hid (show (madeS (xs.take n)).length ≤ 80 by omega)
    clear hoa hba hsa hob hbb hsb hoc hbc hsc e1 e2 e3 hS HA' HB' HC' HB1
    generalize madeS (xs.take n) = us at HOA HV1 HE1 HE3
    generalize madeS (ys.take n) = vs at HOB HV2 HE1 HE2
    generalize madeS (zs.take n) = ts at HOC HV3 HE2
    have HL80 := Lib.hid (show vs.length ≤ 80 by have := HE1.out; have := HE3.out; omega)
    have HJ := Lib.hid (joinS_length us vs)
    have HK := Lib.hid (joinS_length vs ts)
    have HM := Lib.hid (meetS_length us vs)
    have HN := Lib.hid (meetS_length vs ts)
    have HVJ := Lib.hid (join_all HV1.out HV2.out HE1.out).1
    have HVK := Lib.hid (join_all HV2.out HV3.out HE2.out).1
    have HVM := Lib.hid (meet_all (a := us) (b := vs)).1
    have HVN := Lib.hid (meet_all (a := vs) (b := ts)).1
    have HC1 := Lib.hid (join_comm HV1.out HV2.out HE1.out)
    have HC2 := Lib.hid (join_assoc HV1.out HV2.out HV3.out HE1.out HE2.out)
    have HC3 := Lib.hid (meet_comm HE1.out)
    have HC4 := Lib.hid (meet_assoc HE1.out HE2.out)
    have HC5 := Lib.hid (absorb_meet HV1.out HV2.out HE1.out)
    have HC6 := Lib.hid (absorb_join (a := us) (b := vs) HV1.out)
    have HX1 := Lib.hid (show (joinS us vs).length ≤ 80 by rw [HJ.out]; exact HE3.out)
    have HX2 := Lib.hid (show (meetS us vs).length ≤ 80 by rw [HM.out]; exact HE3.out)
    have HX3 := Lib.hid (show (joinS us vs).length ≤ 1000000 by have := HX1.out; omega)
    have HX4 := Lib.hid (show (joinS (joinS us vs) ts).length ≤ 1000000 by rw [joinS_length]; exact HX3.out)
    have HX5 := Lib.hid (show (meetS us vs).length ≤ 1000000 by have := HX2.out; omega)
    have HX6 := Lib.hid (show (meetS (meetS us vs) ts).length ≤ 1000000 by rw [meetS_length]; exact HX5.out)
    have HX7 := Lib.hid (show us.length ≤ 1000000 by have := HE3.out; omega)
    obtain ⟨ab, hab⟩ : ∃ ab, joinS us vs = ab := ⟨_, rfl⟩
    obtain ⟨bc, hbc⟩ : ∃ bc, joinS vs ts = bc := ⟨_, rfl⟩
    obtain ⟨m, hm⟩ : ∃ m, meetS us vs = m := ⟨_, rfl⟩
    obtain ⟨n2, hn2⟩ : ∃ n2, meetS vs ts = n2 := ⟨_, rfl⟩
    rw [hab] at HJ HVJ HC1 HC2 HC5 HX1 HX3 HX4
    rw [hbc] at HK HVK HC2
    rw [hm] at HM HVM HC3 HC4 HC6 HX2 HX5 HX6
    rw [hn2] at HN HVN HC4
    obtain ⟨lf, hlf⟩ : ∃ lf, joinS ab ts = lf := ⟨_, rfl⟩
    obtain ⟨mc, hmc⟩ : ∃ mc, meetS m ts = mc := ⟨_, rfl⟩
    rw [hlf] at HC2 HX4
    rw [hmc] at HC4 HX6
    have HDJ := Lib.hid hab
    have HDK := Lib.hid hbc
    have HDL := Lib.hid hlf
    have HDM := Lib.hid hm
    have HDN := Lib.hid hmc
    have HDO := Lib.hid hn2
    clear hab hbc hlf hm hmc hn2
    go_wp2_with fail
    refine (joinA us vs ab HDJ.out _ _ _ _ _ HV1.out HV2.out HE1.out HE3.out HOA.out HOB.out).mono ?_
    rintro e w1 ⟨vab, rfl, hovab, hb1⟩
    have HOA_1 := Lib.hid (HOA.out.below hb1 (Nat.le_refl _))
    have HOB_1 := Lib.hid (HOB.out.below hb1 (Nat.le_refl _))
    have HOC_1 := Lib.hid (HOC.out.below hb1 (Nat.le_refl _))
    have HB1 := Lib.hid (HBS.out.trans (hb1.mono HBS.out.size))
    have HOAB_1 := Lib.hid hovab
    clear HOA HOB HOC HBS hovab hb1
    go_wp2_with fail
    refine (joinA vs us ab HC1.out _ _ _ _ _ HV2.out HV1.out HE1.out.symm HL80.out HOB_1.out HOA_1.out).mono ?_
    rintro e w2 ⟨vba, rfl, hovba, hb2⟩
    have HOA_2 := Lib.hid (HOA_1.out.below hb2 (Nat.le_refl _))
    have HOB_2 := Lib.hid (HOB_1.out.below hb2 (Nat.le_refl _))
    have HOC_2 := Lib.hid (HOC_1.out.below hb2 (Nat.le_refl _))
    have HOAB_2 := Lib.hid (HOAB_1.out.below hb2 (Nat.le_refl _))
    have HB2 := Lib.hid (HB1.out.trans (hb2.mono HB1.out.size))
    have HOBA_2 := Lib.hid hovba
    clear HOA_1 HOB_1 HOC_1 HOAB_1 HB1 hovba hb2
    go_wp2_with fail
    refine (joinA vs ts bc HDK.out _ _ _ _ _ HV2.out HV3.out HE2.out HL80.out HOB_2.out HOC_2.out).mono ?_
    rintro e w3 ⟨vbc, rfl, hovbc, hb3⟩
    have HOA_3 := Lib.hid (HOA_2.out.below hb3 (Nat.le_refl _))
    have HOB_3 := Lib.hid (HOB_2.out.below hb3 (Nat.le_refl _))
    have HOC_3 := Lib.hid (HOC_2.out.below hb3 (Nat.le_refl _))
    have HOAB_3 := Lib.hid (HOAB_2.out.below hb3 (Nat.le_refl _))
    have HOBA_3 := Lib.hid (HOBA_2.out.below hb3 (Nat.le_refl _))
    have HB3 := Lib.hid (HB2.out.trans (hb3.mono HB2.out.size))
    have HOBC_3 := Lib.hid hovbc
    clear HOA_2 HOB_2 HOC_2 HOAB_2 HOBA_2 HB2 hovbc hb3
    go_wp2_with fail
    refine (joinA ab ts lf HDL.out _ _ _ _ _ HVJ.out HV3.out (HJ.out.trans (HE1.out.trans HE2.out)) HX1.out HOAB_3.out HOC_3.out).mono ?_
    rintro e w4 ⟨vl, rfl, hovl, hb4⟩
    have HOA_4 := Lib.hid (HOA_3.out.below hb4 (Nat.le_refl _))
    have HOB_4 := Lib.hid (HOB_3.out.below hb4 (Nat.le_refl _))
    have HOC_4 := Lib.hid (HOC_3.out.below hb4 (Nat.le_refl _))
    have HOAB_4 := Lib.hid (HOAB_3.out.below hb4 (Nat.le_refl _))
    have HOBA_4 := Lib.hid (HOBA_3.out.below hb4 (Nat.le_refl _))
    have HOBC_4 := Lib.hid (HOBC_3.out.below hb4 (Nat.le_refl _))
    have HB4 := Lib.hid (HB3.out.trans (hb4.mono HB3.out.size))
    have HOL_4 := Lib.hid hovl
    clear HOA_3 HOB_3 HOC_3 HOAB_3 HOBA_3 HOBC_3 HB3 hovl hb4
    go_wp2_with fail
    refine (joinA us bc lf HC2.out _ _ _ _ _ HV1.out HVK.out (HE1.out.trans HK.out.symm) HE3.out HOA_4.out HOBC_4.out).mono ?_
    rintro e w5 ⟨vr, rfl, hovr, hb5⟩
    have HOA_5 := Lib.hid (HOA_4.out.below hb5 (Nat.le_refl _))
    have HOB_5 := Lib.hid (HOB_4.out.below hb5 (Nat.le_refl _))
    have HOC_5 := Lib.hid (HOC_4.out.below hb5 (Nat.le_refl _))
    have HOAB_5 := Lib.hid (HOAB_4.out.below hb5 (Nat.le_refl _))
    have HOBA_5 := Lib.hid (HOBA_4.out.below hb5 (Nat.le_refl _))
    have HOBC_5 := Lib.hid (HOBC_4.out.below hb5 (Nat.le_refl _))
    have HOL_5 := Lib.hid (HOL_4.out.below hb5 (Nat.le_refl _))
    have HB5 := Lib.hid (HB4.out.trans (hb5.mono HB4.out.size))
    have HOR_5 := Lib.hid hovr
    clear HOA_4 HOB_4 HOC_4 HOAB_4 HOBA_4 HOBC_4 HOL_4 HB4 hovr hb5
    go_wp2_with fail
    refine (sameOwn ab _ _ _ _ _ HX3.out HOAB_5.out HOBA_5.out).mono ?_
    rintro e w6 ⟨rfl, hb6⟩
    have HOA_6 := Lib.hid (HOA_5.out.below hb6 (Nat.le_refl _))
    have HOB_6 := Lib.hid (HOB_5.out.below hb6 (Nat.le_refl _))
    have HOC_6 := Lib.hid (HOC_5.out.below hb6 (Nat.le_refl _))
    have HOAB_6 := Lib.hid (HOAB_5.out.below hb6 (Nat.le_refl _))
    have HOBA_6 := Lib.hid (HOBA_5.out.below hb6 (Nat.le_refl _))
    have HOBC_6 := Lib.hid (HOBC_5.out.below hb6 (Nat.le_refl _))
    have HOL_6 := Lib.hid (HOL_5.out.below hb6 (Nat.le_refl _))
    have HOR_6 := Lib.hid (HOR_5.out.below hb6 (Nat.le_refl _))
    have HB6 := Lib.hid (HB5.out.trans (hb6.mono HB5.out.size))
    clear HOA_5 HOB_5 HOC_5 HOAB_5 HOBA_5 HOBC_5 HOL_5 HOR_5 HB5 hb6
    go_wp2_with fail
    refine (sameOwn lf _ _ _ _ _ HX4.out HOL_6.out HOR_6.out).mono ?_
    rintro e w7 ⟨rfl, hb7⟩
    have HOA_7 := Lib.hid (HOA_6.out.below hb7 (Nat.le_refl _))
    have HOB_7 := Lib.hid (HOB_6.out.below hb7 (Nat.le_refl _))
    have HOC_7 := Lib.hid (HOC_6.out.below hb7 (Nat.le_refl _))
    have HOAB_7 := Lib.hid (HOAB_6.out.below hb7 (Nat.le_refl _))
    have HOBA_7 := Lib.hid (HOBA_6.out.below hb7 (Nat.le_refl _))
    have HOBC_7 := Lib.hid (HOBC_6.out.below hb7 (Nat.le_refl _))
    have HOL_7 := Lib.hid (HOL_6.out.below hb7 (Nat.le_refl _))
    have HOR_7 := Lib.hid (HOR_6.out.below hb7 (Nat.le_refl _))
    have HB7 := Lib.hid (HB6.out.trans (hb7.mono HB6.out.size))
    clear HOA_6 HOB_6 HOC_6 HOAB_6 HOBA_6 HOBC_6 HOL_6 HOR_6 HB6 hb7
    go_wp2_with fail
    refine (meetA us vs m HDM.out _ _ _ _ _ HV1.out HV2.out HE1.out HE3.out HOA_7.out HOB_7.out).mono ?_
    rintro e w8 ⟨vm, rfl, hovm, hb8⟩
    have HOA_8 := Lib.hid (HOA_7.out.below hb8 (Nat.le_refl _))
    have HOB_8 := Lib.hid (HOB_7.out.below hb8 (Nat.le_refl _))
    have HOC_8 := Lib.hid (HOC_7.out.below hb8 (Nat.le_refl _))
    have HOAB_8 := Lib.hid (HOAB_7.out.below hb8 (Nat.le_refl _))
    have HOBA_8 := Lib.hid (HOBA_7.out.below hb8 (Nat.le_refl _))
    have HOBC_8 := Lib.hid (HOBC_7.out.below hb8 (Nat.le_refl _))
    have HOL_8 := Lib.hid (HOL_7.out.below hb8 (Nat.le_refl _))
    have HOR_8 := Lib.hid (HOR_7.out.below hb8 (Nat.le_refl _))
    have HB8 := Lib.hid (HB7.out.trans (hb8.mono HB7.out.size))
    have HOM_8 := Lib.hid hovm
    clear HOA_7 HOB_7 HOC_7 HOAB_7 HOBA_7 HOBC_7 HOL_7 HOR_7 HB7 hovm hb8
    go_wp2_with fail
    refine (meetA vs us m HC3.out _ _ _ _ _ HV2.out HV1.out HE1.out.symm HL80.out HOB_8.out HOA_8.out).mono ?_
    rintro e w9 ⟨vm1, rfl, hovm1, hb9⟩
    have HOA_9 := Lib.hid (HOA_8.out.below hb9 (Nat.le_refl _))
    have HOB_9 := Lib.hid (HOB_8.out.below hb9 (Nat.le_refl _))
    have HOC_9 := Lib.hid (HOC_8.out.below hb9 (Nat.le_refl _))
    have HOAB_9 := Lib.hid (HOAB_8.out.below hb9 (Nat.le_refl _))
    have HOBA_9 := Lib.hid (HOBA_8.out.below hb9 (Nat.le_refl _))
    have HOBC_9 := Lib.hid (HOBC_8.out.below hb9 (Nat.le_refl _))
    have HOL_9 := Lib.hid (HOL_8.out.below hb9 (Nat.le_refl _))
    have HOR_9 := Lib.hid (HOR_8.out.below hb9 (Nat.le_refl _))
    have HOM_9 := Lib.hid (HOM_8.out.below hb9 (Nat.le_refl _))
    have HB9 := Lib.hid (HB8.out.trans (hb9.mono HB8.out.size))
    have HOM1_9 := Lib.hid hovm1
    clear HOA_8 HOB_8 HOC_8 HOAB_8 HOBA_8 HOBC_8 HOL_8 HOR_8 HOM_8 HB8 hovm1 hb9
    go_wp2_with fail
    refine (meetA m ts mc HDN.out _ _ _ _ _ HVM.out HV3.out (HM.out.trans (HE1.out.trans HE2.out)) HX2.out HOM_9.out HOC_9.out).mono ?_
    rintro e w10 ⟨vmc, rfl, hovmc, hb10⟩
    have HOA_10 := Lib.hid (HOA_9.out.below hb10 (Nat.le_refl _))
    have HOB_10 := Lib.hid (HOB_9.out.below hb10 (Nat.le_refl _))
    have HOC_10 := Lib.hid (HOC_9.out.below hb10 (Nat.le_refl _))
    have HOAB_10 := Lib.hid (HOAB_9.out.below hb10 (Nat.le_refl _))
    have HOBA_10 := Lib.hid (HOBA_9.out.below hb10 (Nat.le_refl _))
    have HOBC_10 := Lib.hid (HOBC_9.out.below hb10 (Nat.le_refl _))
    have HOL_10 := Lib.hid (HOL_9.out.below hb10 (Nat.le_refl _))
    have HOR_10 := Lib.hid (HOR_9.out.below hb10 (Nat.le_refl _))
    have HOM_10 := Lib.hid (HOM_9.out.below hb10 (Nat.le_refl _))
    have HOM1_10 := Lib.hid (HOM1_9.out.below hb10 (Nat.le_refl _))
    have HB10 := Lib.hid (HB9.out.trans (hb10.mono HB9.out.size))
    have HOMC_10 := Lib.hid hovmc
    clear HOA_9 HOB_9 HOC_9 HOAB_9 HOBA_9 HOBC_9 HOL_9 HOR_9 HOM_9 HOM1_9 HB9 hovmc hb10
    go_wp2_with fail
    refine (meetA vs ts n2 HDO.out _ _ _ _ _ HV2.out HV3.out HE2.out HL80.out HOB_10.out HOC_10.out).mono ?_
    rintro e w11 ⟨vn2, rfl, hovn2, hb11⟩
    have HOA_11 := Lib.hid (HOA_10.out.below hb11 (Nat.le_refl _))
    have HOB_11 := Lib.hid (HOB_10.out.below hb11 (Nat.le_refl _))
    have HOC_11 := Lib.hid (HOC_10.out.below hb11 (Nat.le_refl _))
    have HOAB_11 := Lib.hid (HOAB_10.out.below hb11 (Nat.le_refl _))
    have HOBA_11 := Lib.hid (HOBA_10.out.below hb11 (Nat.le_refl _))
    have HOBC_11 := Lib.hid (HOBC_10.out.below hb11 (Nat.le_refl _))
    have HOL_11 := Lib.hid (HOL_10.out.below hb11 (Nat.le_refl _))
    have HOR_11 := Lib.hid (HOR_10.out.below hb11 (Nat.le_refl _))
    have HOM_11 := Lib.hid (HOM_10.out.below hb11 (Nat.le_refl _))
    have HOM1_11 := Lib.hid (HOM1_10.out.below hb11 (Nat.le_refl _))
    have HOMC_11 := Lib.hid (HOMC_10.out.below hb11 (Nat.le_refl _))
    have HB11 := Lib.hid (HB10.out.trans (hb11.mono HB10.out.size))
    have HON2_11 := Lib.hid hovn2
    clear HOA_10 HOB_10 HOC_10 HOAB_10 HOBA_10 HOBC_10 HOL_10 HOR_10 HOM_10 HOM1_10 HOMC_10 HB10 hovn2 hb11
    go_wp2_with fail
    refine (meetA us n2 mc HC4.out _ _ _ _ _ HV1.out HVN.out (HE1.out.trans HN.out.symm) HE3.out HOA_11.out HON2_11.out).mono ?_
    rintro e w12 ⟨vam, rfl, hovam, hb12⟩
    have HOA_12 := Lib.hid (HOA_11.out.below hb12 (Nat.le_refl _))
    have HOB_12 := Lib.hid (HOB_11.out.below hb12 (Nat.le_refl _))
    have HOC_12 := Lib.hid (HOC_11.out.below hb12 (Nat.le_refl _))
    have HOAB_12 := Lib.hid (HOAB_11.out.below hb12 (Nat.le_refl _))
    have HOBA_12 := Lib.hid (HOBA_11.out.below hb12 (Nat.le_refl _))
    have HOBC_12 := Lib.hid (HOBC_11.out.below hb12 (Nat.le_refl _))
    have HOL_12 := Lib.hid (HOL_11.out.below hb12 (Nat.le_refl _))
    have HOR_12 := Lib.hid (HOR_11.out.below hb12 (Nat.le_refl _))
    have HOM_12 := Lib.hid (HOM_11.out.below hb12 (Nat.le_refl _))
    have HOM1_12 := Lib.hid (HOM1_11.out.below hb12 (Nat.le_refl _))
    have HOMC_12 := Lib.hid (HOMC_11.out.below hb12 (Nat.le_refl _))
    have HON2_12 := Lib.hid (HON2_11.out.below hb12 (Nat.le_refl _))
    have HB12 := Lib.hid (HB11.out.trans (hb12.mono HB11.out.size))
    have HOAM_12 := Lib.hid hovam
    clear HOA_11 HOB_11 HOC_11 HOAB_11 HOBA_11 HOBC_11 HOL_11 HOR_11 HOM_11 HOM1_11 HOMC_11 HON2_11 HB11 hovam hb12
    go_wp2_with fail
    refine (sameOwn m _ _ _ _ _ HX5.out HOM_12.out HOM1_12.out).mono ?_
    rintro e w13 ⟨rfl, hb13⟩
    have HOA_13 := Lib.hid (HOA_12.out.below hb13 (Nat.le_refl _))
    have HOB_13 := Lib.hid (HOB_12.out.below hb13 (Nat.le_refl _))
    have HOC_13 := Lib.hid (HOC_12.out.below hb13 (Nat.le_refl _))
    have HOAB_13 := Lib.hid (HOAB_12.out.below hb13 (Nat.le_refl _))
    have HOBA_13 := Lib.hid (HOBA_12.out.below hb13 (Nat.le_refl _))
    have HOBC_13 := Lib.hid (HOBC_12.out.below hb13 (Nat.le_refl _))
    have HOL_13 := Lib.hid (HOL_12.out.below hb13 (Nat.le_refl _))
    have HOR_13 := Lib.hid (HOR_12.out.below hb13 (Nat.le_refl _))
    have HOM_13 := Lib.hid (HOM_12.out.below hb13 (Nat.le_refl _))
    have HOM1_13 := Lib.hid (HOM1_12.out.below hb13 (Nat.le_refl _))
    have HOMC_13 := Lib.hid (HOMC_12.out.below hb13 (Nat.le_refl _))
    have HON2_13 := Lib.hid (HON2_12.out.below hb13 (Nat.le_refl _))
    have HOAM_13 := Lib.hid (HOAM_12.out.below hb13 (Nat.le_refl _))
    have HB13 := Lib.hid (HB12.out.trans (hb13.mono HB12.out.size))
    clear HOA_12 HOB_12 HOC_12 HOAB_12 HOBA_12 HOBC_12 HOL_12 HOR_12 HOM_12 HOM1_12 HOMC_12 HON2_12 HOAM_12 HB12 hb13
    go_wp2_with fail
    refine (sameOwn mc _ _ _ _ _ HX6.out HOMC_13.out HOAM_13.out).mono ?_
    rintro e w14 ⟨rfl, hb14⟩
    have HOA_14 := Lib.hid (HOA_13.out.below hb14 (Nat.le_refl _))
    have HOB_14 := Lib.hid (HOB_13.out.below hb14 (Nat.le_refl _))
    have HOC_14 := Lib.hid (HOC_13.out.below hb14 (Nat.le_refl _))
    have HOAB_14 := Lib.hid (HOAB_13.out.below hb14 (Nat.le_refl _))
    have HOBA_14 := Lib.hid (HOBA_13.out.below hb14 (Nat.le_refl _))
    have HOBC_14 := Lib.hid (HOBC_13.out.below hb14 (Nat.le_refl _))
    have HOL_14 := Lib.hid (HOL_13.out.below hb14 (Nat.le_refl _))
    have HOR_14 := Lib.hid (HOR_13.out.below hb14 (Nat.le_refl _))
    have HOM_14 := Lib.hid (HOM_13.out.below hb14 (Nat.le_refl _))
    have HOM1_14 := Lib.hid (HOM1_13.out.below hb14 (Nat.le_refl _))
    have HOMC_14 := Lib.hid (HOMC_13.out.below hb14 (Nat.le_refl _))
    have HON2_14 := Lib.hid (HON2_13.out.below hb14 (Nat.le_refl _))
    have HOAM_14 := Lib.hid (HOAM_13.out.below hb14 (Nat.le_refl _))
    have HB14 := Lib.hid (HB13.out.trans (hb14.mono HB13.out.size))
    clear HOA_13 HOB_13 HOC_13 HOAB_13 HOBA_13 HOBC_13 HOL_13 HOR_13 HOM_13 HOM1_13 HOMC_13 HON2_13 HOAM_13 HB13 hb14
    go_wp2_with fail
    refine (meetA us ab us HC5.out _ _ _ _ _ HV1.out HVJ.out HJ.out.symm HE3.out HOA_14.out HOAB_14.out).mono ?_
    rintro e w15 ⟨von, rfl, hovon, hb15⟩
    have HOA_15 := Lib.hid (HOA_14.out.below hb15 (Nat.le_refl _))
    have HOB_15 := Lib.hid (HOB_14.out.below hb15 (Nat.le_refl _))
    have HOC_15 := Lib.hid (HOC_14.out.below hb15 (Nat.le_refl _))
    have HOAB_15 := Lib.hid (HOAB_14.out.below hb15 (Nat.le_refl _))
    have HOBA_15 := Lib.hid (HOBA_14.out.below hb15 (Nat.le_refl _))
    have HOBC_15 := Lib.hid (HOBC_14.out.below hb15 (Nat.le_refl _))
    have HOL_15 := Lib.hid (HOL_14.out.below hb15 (Nat.le_refl _))
    have HOR_15 := Lib.hid (HOR_14.out.below hb15 (Nat.le_refl _))
    have HOM_15 := Lib.hid (HOM_14.out.below hb15 (Nat.le_refl _))
    have HOM1_15 := Lib.hid (HOM1_14.out.below hb15 (Nat.le_refl _))
    have HOMC_15 := Lib.hid (HOMC_14.out.below hb15 (Nat.le_refl _))
    have HON2_15 := Lib.hid (HON2_14.out.below hb15 (Nat.le_refl _))
    have HOAM_15 := Lib.hid (HOAM_14.out.below hb15 (Nat.le_refl _))
    have HB15 := Lib.hid (HB14.out.trans (hb15.mono HB14.out.size))
    have HOO_15 := Lib.hid hovon
    clear HOA_14 HOB_14 HOC_14 HOAB_14 HOBA_14 HOBC_14 HOL_14 HOR_14 HOM_14 HOM1_14 HOMC_14 HON2_14 HOAM_14 HB14 hovon hb15
    go_wp2_with fail
    refine (joinA us m us HC6.out _ _ _ _ _ HV1.out HVM.out HM.out.symm HE3.out HOA_15.out HOM_15.out).mono ?_
    rintro e w16 ⟨vtw, rfl, hovtw, hb16⟩
    have HOA_16 := Lib.hid (HOA_15.out.below hb16 (Nat.le_refl _))
    have HOB_16 := Lib.hid (HOB_15.out.below hb16 (Nat.le_refl _))
    have HOC_16 := Lib.hid (HOC_15.out.below hb16 (Nat.le_refl _))
    have HOAB_16 := Lib.hid (HOAB_15.out.below hb16 (Nat.le_refl _))
    have HOBA_16 := Lib.hid (HOBA_15.out.below hb16 (Nat.le_refl _))
    have HOBC_16 := Lib.hid (HOBC_15.out.below hb16 (Nat.le_refl _))
    have HOL_16 := Lib.hid (HOL_15.out.below hb16 (Nat.le_refl _))
    have HOR_16 := Lib.hid (HOR_15.out.below hb16 (Nat.le_refl _))
    have HOM_16 := Lib.hid (HOM_15.out.below hb16 (Nat.le_refl _))
    have HOM1_16 := Lib.hid (HOM1_15.out.below hb16 (Nat.le_refl _))
    have HOMC_16 := Lib.hid (HOMC_15.out.below hb16 (Nat.le_refl _))
    have HON2_16 := Lib.hid (HON2_15.out.below hb16 (Nat.le_refl _))
    have HOAM_16 := Lib.hid (HOAM_15.out.below hb16 (Nat.le_refl _))
    have HOO_16 := Lib.hid (HOO_15.out.below hb16 (Nat.le_refl _))
    have HB16 := Lib.hid (HB15.out.trans (hb16.mono HB15.out.size))
    have HOT_16 := Lib.hid hovtw
    clear HOA_15 HOB_15 HOC_15 HOAB_15 HOBA_15 HOBC_15 HOL_15 HOR_15 HOM_15 HOM1_15 HOMC_15 HON2_15 HOAM_15 HOO_15 HB15 hovtw hb16
    go_wp2_with fail
    refine (sameOwn us _ _ _ _ _ HX7.out HOO_16.out HOA_16.out).mono ?_
    rintro e w17 ⟨rfl, hb17⟩
    have HOA_17 := Lib.hid (HOA_16.out.below hb17 (Nat.le_refl _))
    have HOB_17 := Lib.hid (HOB_16.out.below hb17 (Nat.le_refl _))
    have HOC_17 := Lib.hid (HOC_16.out.below hb17 (Nat.le_refl _))
    have HOAB_17 := Lib.hid (HOAB_16.out.below hb17 (Nat.le_refl _))
    have HOBA_17 := Lib.hid (HOBA_16.out.below hb17 (Nat.le_refl _))
    have HOBC_17 := Lib.hid (HOBC_16.out.below hb17 (Nat.le_refl _))
    have HOL_17 := Lib.hid (HOL_16.out.below hb17 (Nat.le_refl _))
    have HOR_17 := Lib.hid (HOR_16.out.below hb17 (Nat.le_refl _))
    have HOM_17 := Lib.hid (HOM_16.out.below hb17 (Nat.le_refl _))
    have HOM1_17 := Lib.hid (HOM1_16.out.below hb17 (Nat.le_refl _))
    have HOMC_17 := Lib.hid (HOMC_16.out.below hb17 (Nat.le_refl _))
    have HON2_17 := Lib.hid (HON2_16.out.below hb17 (Nat.le_refl _))
    have HOAM_17 := Lib.hid (HOAM_16.out.below hb17 (Nat.le_refl _))
    have HOO_17 := Lib.hid (HOO_16.out.below hb17 (Nat.le_refl _))
    have HOT_17 := Lib.hid (HOT_16.out.below hb17 (Nat.le_refl _))
    have HB17 := Lib.hid (HB16.out.trans (hb17.mono HB16.out.size))
    clear HOA_16 HOB_16 HOC_16 HOAB_16 HOBA_16 HOBC_16 HOL_16 HOR_16 HOM_16 HOM1_16 HOMC_16 HON2_16 HOAM_16 HOO_16 HOT_16 HB16 hb17
    go_wp2_with fail
    refine (sameOwn us _ _ _ _ _ HX7.out HOT_17.out HOA_17.out).mono ?_
    rintro e w18 ⟨rfl, hb18⟩
    have HOA_18 := Lib.hid (HOA_17.out.below hb18 (Nat.le_refl _))
    have HOB_18 := Lib.hid (HOB_17.out.below hb18 (Nat.le_refl _))
    have HOC_18 := Lib.hid (HOC_17.out.below hb18 (Nat.le_refl _))
    have HOAB_18 := Lib.hid (HOAB_17.out.below hb18 (Nat.le_refl _))
    have HOBA_18 := Lib.hid (HOBA_17.out.below hb18 (Nat.le_refl _))
    have HOBC_18 := Lib.hid (HOBC_17.out.below hb18 (Nat.le_refl _))
    have HOL_18 := Lib.hid (HOL_17.out.below hb18 (Nat.le_refl _))
    have HOR_18 := Lib.hid (HOR_17.out.below hb18 (Nat.le_refl _))
    have HOM_18 := Lib.hid (HOM_17.out.below hb18 (Nat.le_refl _))
    have HOM1_18 := Lib.hid (HOM1_17.out.below hb18 (Nat.le_refl _))
    have HOMC_18 := Lib.hid (HOMC_17.out.below hb18 (Nat.le_refl _))
    have HON2_18 := Lib.hid (HON2_17.out.below hb18 (Nat.le_refl _))
    have HOAM_18 := Lib.hid (HOAM_17.out.below hb18 (Nat.le_refl _))
    have HOO_18 := Lib.hid (HOO_17.out.below hb18 (Nat.le_refl _))
    have HOT_18 := Lib.hid (HOT_17.out.below hb18 (Nat.le_refl _))
    have HB18 := Lib.hid (HB17.out.trans (hb18.mono HB17.out.size))
    clear HOA_17 HOB_17 HOC_17 HOAB_17 HOBA_17 HOBC_17 HOL_17 HOR_17 HOM_17 HOM1_17 HOMC_17 HON2_17 HOAM_17 HOO_17 HOT_17 HB17 hb18
    by_cases f1 : F us vs
    · have F1 := Lib.hid f1
      clear f1
      go_wp2_with fail
      refine (finerYes us vs _ _ _ _ _ HV1.out HV2.out HE1.out HE3.out F1.out HOA_18.out HOB_18.out).mono ?_
      rintro e w19 ⟨rfl, hb19⟩
      have HOA_19 := Lib.hid (HOA_18.out.below hb19 (Nat.le_refl _))
      have HOB_19 := Lib.hid (HOB_18.out.below hb19 (Nat.le_refl _))
      have HOC_19 := Lib.hid (HOC_18.out.below hb19 (Nat.le_refl _))
      have HOAB_19 := Lib.hid (HOAB_18.out.below hb19 (Nat.le_refl _))
      have HOBA_19 := Lib.hid (HOBA_18.out.below hb19 (Nat.le_refl _))
      have HOBC_19 := Lib.hid (HOBC_18.out.below hb19 (Nat.le_refl _))
      have HOL_19 := Lib.hid (HOL_18.out.below hb19 (Nat.le_refl _))
      have HOR_19 := Lib.hid (HOR_18.out.below hb19 (Nat.le_refl _))
      have HOM_19 := Lib.hid (HOM_18.out.below hb19 (Nat.le_refl _))
      have HOM1_19 := Lib.hid (HOM1_18.out.below hb19 (Nat.le_refl _))
      have HOMC_19 := Lib.hid (HOMC_18.out.below hb19 (Nat.le_refl _))
      have HON2_19 := Lib.hid (HON2_18.out.below hb19 (Nat.le_refl _))
      have HOAM_19 := Lib.hid (HOAM_18.out.below hb19 (Nat.le_refl _))
      have HOO_19 := Lib.hid (HOO_18.out.below hb19 (Nat.le_refl _))
      have HOT_19 := Lib.hid (HOT_18.out.below hb19 (Nat.le_refl _))
      have HB19 := Lib.hid (HB18.out.trans (hb19.mono HB18.out.size))
      clear HOA_18 HOB_18 HOC_18 HOAB_18 HOBA_18 HOBC_18 HOL_18 HOR_18 HOM_18 HOM1_18 HOMC_18 HON2_18 HOAM_18 HOO_18 HOT_18 HB18 hb19
      by_cases f2 : F vs us
      · have F2 := Lib.hid f2
        clear f2
        go_wp2_with fail
        refine (finerYes vs us _ _ _ _ _ HV2.out HV1.out HE1.out.symm HL80.out F2.out HOB_19.out HOA_19.out).mono ?_
        rintro e w20 ⟨rfl, hb20⟩
        have HOA_20 := Lib.hid (HOA_19.out.below hb20 (Nat.le_refl _))
        have HOB_20 := Lib.hid (HOB_19.out.below hb20 (Nat.le_refl _))
        have HOC_20 := Lib.hid (HOC_19.out.below hb20 (Nat.le_refl _))
        have HOAB_20 := Lib.hid (HOAB_19.out.below hb20 (Nat.le_refl _))
        have HOBA_20 := Lib.hid (HOBA_19.out.below hb20 (Nat.le_refl _))
        have HOBC_20 := Lib.hid (HOBC_19.out.below hb20 (Nat.le_refl _))
        have HOL_20 := Lib.hid (HOL_19.out.below hb20 (Nat.le_refl _))
        have HOR_20 := Lib.hid (HOR_19.out.below hb20 (Nat.le_refl _))
        have HOM_20 := Lib.hid (HOM_19.out.below hb20 (Nat.le_refl _))
        have HOM1_20 := Lib.hid (HOM1_19.out.below hb20 (Nat.le_refl _))
        have HOMC_20 := Lib.hid (HOMC_19.out.below hb20 (Nat.le_refl _))
        have HON2_20 := Lib.hid (HON2_19.out.below hb20 (Nat.le_refl _))
        have HOAM_20 := Lib.hid (HOAM_19.out.below hb20 (Nat.le_refl _))
        have HOO_20 := Lib.hid (HOO_19.out.below hb20 (Nat.le_refl _))
        have HOT_20 := Lib.hid (HOT_19.out.below hb20 (Nat.le_refl _))
        have HB20 := Lib.hid (HB19.out.trans (hb20.mono HB19.out.size))
        clear HOA_19 HOB_19 HOC_19 HOAB_19 HOBA_19 HOBC_19 HOL_19 HOR_19 HOM_19 HOM1_19 HOMC_19 HON2_19 HOAM_19 HOO_19 HOT_19 HB19 hb20
        go_wp2_with fail
        refine (sameOwn us _ _ _ _ _ HX7.out HOA_20.out (Own.cast (F.antisymm HV1.out HV2.out HE1.out F1.out F2.out).symm HOB_20.out)).mono ?_
        rintro e w21 ⟨rfl, hb21⟩
        have HOA_21 := Lib.hid (HOA_20.out.below hb21 (Nat.le_refl _))
        have HOB_21 := Lib.hid (HOB_20.out.below hb21 (Nat.le_refl _))
        have HOC_21 := Lib.hid (HOC_20.out.below hb21 (Nat.le_refl _))
        have HOAB_21 := Lib.hid (HOAB_20.out.below hb21 (Nat.le_refl _))
        have HOBA_21 := Lib.hid (HOBA_20.out.below hb21 (Nat.le_refl _))
        have HOBC_21 := Lib.hid (HOBC_20.out.below hb21 (Nat.le_refl _))
        have HOL_21 := Lib.hid (HOL_20.out.below hb21 (Nat.le_refl _))
        have HOR_21 := Lib.hid (HOR_20.out.below hb21 (Nat.le_refl _))
        have HOM_21 := Lib.hid (HOM_20.out.below hb21 (Nat.le_refl _))
        have HOM1_21 := Lib.hid (HOM1_20.out.below hb21 (Nat.le_refl _))
        have HOMC_21 := Lib.hid (HOMC_20.out.below hb21 (Nat.le_refl _))
        have HON2_21 := Lib.hid (HON2_20.out.below hb21 (Nat.le_refl _))
        have HOAM_21 := Lib.hid (HOAM_20.out.below hb21 (Nat.le_refl _))
        have HOO_21 := Lib.hid (HOO_20.out.below hb21 (Nat.le_refl _))
        have HOT_21 := Lib.hid (HOT_20.out.below hb21 (Nat.le_refl _))
        have HB21 := Lib.hid (HB20.out.trans (hb21.mono HB20.out.size))
        clear HOA_20 HOB_20 HOC_20 HOAB_20 HOBA_20 HOBC_20 HOL_20 HOR_20 HOM_20 HOM1_20 HOMC_20 HON2_20 HOAM_20 HOO_20 HOT_20 HB20 hb21
        go_wp2_with fail
        go_ret
        exact ⟨rfl, HB21.out⟩
      · have F2 := Lib.hid f2
        clear f2
        go_wp2_with fail
        refine (finerNo vs us _ _ _ _ _ HV2.out HV1.out HE1.out.symm HL80.out F2.out HOB_19.out HOA_19.out).mono ?_
        rintro e w20 ⟨rfl, hb20⟩
        have HOA_20 := Lib.hid (HOA_19.out.below hb20 (Nat.le_refl _))
        have HOB_20 := Lib.hid (HOB_19.out.below hb20 (Nat.le_refl _))
        have HOC_20 := Lib.hid (HOC_19.out.below hb20 (Nat.le_refl _))
        have HOAB_20 := Lib.hid (HOAB_19.out.below hb20 (Nat.le_refl _))
        have HOBA_20 := Lib.hid (HOBA_19.out.below hb20 (Nat.le_refl _))
        have HOBC_20 := Lib.hid (HOBC_19.out.below hb20 (Nat.le_refl _))
        have HOL_20 := Lib.hid (HOL_19.out.below hb20 (Nat.le_refl _))
        have HOR_20 := Lib.hid (HOR_19.out.below hb20 (Nat.le_refl _))
        have HOM_20 := Lib.hid (HOM_19.out.below hb20 (Nat.le_refl _))
        have HOM1_20 := Lib.hid (HOM1_19.out.below hb20 (Nat.le_refl _))
        have HOMC_20 := Lib.hid (HOMC_19.out.below hb20 (Nat.le_refl _))
        have HON2_20 := Lib.hid (HON2_19.out.below hb20 (Nat.le_refl _))
        have HOAM_20 := Lib.hid (HOAM_19.out.below hb20 (Nat.le_refl _))
        have HOO_20 := Lib.hid (HOO_19.out.below hb20 (Nat.le_refl _))
        have HOT_20 := Lib.hid (HOT_19.out.below hb20 (Nat.le_refl _))
        have HB20 := Lib.hid (HB19.out.trans (hb20.mono HB19.out.size))
        clear HOA_19 HOB_19 HOC_19 HOAB_19 HOBA_19 HOBC_19 HOL_19 HOR_19 HOM_19 HOM1_19 HOMC_19 HON2_19 HOAM_19 HOO_19 HOT_19 HB19 hb20
        go_wp2_with fail
        refine (equalNo us vs _ _ _ _ _ HX7.out (fun h => F2.out (h ▸ F.refl HV1.out)) HOA_20.out HOB_20.out).mono ?_
        rintro e w21 ⟨rfl, hb21⟩
        have HOA_21 := Lib.hid (HOA_20.out.below hb21 (Nat.le_refl _))
        have HOB_21 := Lib.hid (HOB_20.out.below hb21 (Nat.le_refl _))
        have HOC_21 := Lib.hid (HOC_20.out.below hb21 (Nat.le_refl _))
        have HOAB_21 := Lib.hid (HOAB_20.out.below hb21 (Nat.le_refl _))
        have HOBA_21 := Lib.hid (HOBA_20.out.below hb21 (Nat.le_refl _))
        have HOBC_21 := Lib.hid (HOBC_20.out.below hb21 (Nat.le_refl _))
        have HOL_21 := Lib.hid (HOL_20.out.below hb21 (Nat.le_refl _))
        have HOR_21 := Lib.hid (HOR_20.out.below hb21 (Nat.le_refl _))
        have HOM_21 := Lib.hid (HOM_20.out.below hb21 (Nat.le_refl _))
        have HOM1_21 := Lib.hid (HOM1_20.out.below hb21 (Nat.le_refl _))
        have HOMC_21 := Lib.hid (HOMC_20.out.below hb21 (Nat.le_refl _))
        have HON2_21 := Lib.hid (HON2_20.out.below hb21 (Nat.le_refl _))
        have HOAM_21 := Lib.hid (HOAM_20.out.below hb21 (Nat.le_refl _))
        have HOO_21 := Lib.hid (HOO_20.out.below hb21 (Nat.le_refl _))
        have HOT_21 := Lib.hid (HOT_20.out.below hb21 (Nat.le_refl _))
        have HB21 := Lib.hid (HB20.out.trans (hb21.mono HB20.out.size))
        clear HOA_20 HOB_20 HOC_20 HOAB_20 HOBA_20 HOBC_20 HOL_20 HOR_20 HOM_20 HOM1_20 HOMC_20 HON2_20 HOAM_20 HOO_20 HOT_20 HB20 hb21
        go_wp2_with fail
        go_ret
        exact ⟨rfl, HB21.out⟩
    · have F1 := Lib.hid f1
      clear f1
      go_wp2_with fail
      refine (finerNo us vs _ _ _ _ _ HV1.out HV2.out HE1.out HE3.out F1.out HOA_18.out HOB_18.out).mono ?_
      rintro e w19 ⟨rfl, hb19⟩
      have HOA_19 := Lib.hid (HOA_18.out.below hb19 (Nat.le_refl _))
      have HOB_19 := Lib.hid (HOB_18.out.below hb19 (Nat.le_refl _))
      have HOC_19 := Lib.hid (HOC_18.out.below hb19 (Nat.le_refl _))
      have HOAB_19 := Lib.hid (HOAB_18.out.below hb19 (Nat.le_refl _))
      have HOBA_19 := Lib.hid (HOBA_18.out.below hb19 (Nat.le_refl _))
      have HOBC_19 := Lib.hid (HOBC_18.out.below hb19 (Nat.le_refl _))
      have HOL_19 := Lib.hid (HOL_18.out.below hb19 (Nat.le_refl _))
      have HOR_19 := Lib.hid (HOR_18.out.below hb19 (Nat.le_refl _))
      have HOM_19 := Lib.hid (HOM_18.out.below hb19 (Nat.le_refl _))
      have HOM1_19 := Lib.hid (HOM1_18.out.below hb19 (Nat.le_refl _))
      have HOMC_19 := Lib.hid (HOMC_18.out.below hb19 (Nat.le_refl _))
      have HON2_19 := Lib.hid (HON2_18.out.below hb19 (Nat.le_refl _))
      have HOAM_19 := Lib.hid (HOAM_18.out.below hb19 (Nat.le_refl _))
      have HOO_19 := Lib.hid (HOO_18.out.below hb19 (Nat.le_refl _))
      have HOT_19 := Lib.hid (HOT_18.out.below hb19 (Nat.le_refl _))
      have HB19 := Lib.hid (HB18.out.trans (hb19.mono HB18.out.size))
      clear HOA_18 HOB_18 HOC_18 HOAB_18 HOBA_18 HOBC_18 HOL_18 HOR_18 HOM_18 HOM1_18 HOMC_18 HON2_18 HOAM_18 HOO_18 HOT_18 HB18 hb19
      go_wp2_with fail
      refine (equalNo us vs _ _ _ _ _ HX7.out (fun h => F1.out (h ▸ F.refl HV1.out)) HOA_19.out HOB_19.out).mono ?_
      rintro e w20 ⟨rfl, hb20⟩
      have HOA_20 := Lib.hid (HOA_19.out.below hb20 (Nat.le_refl _))
      have HOB_20 := Lib.hid (HOB_19.out.below hb20 (Nat.le_refl _))
      have HOC_20 := Lib.hid (HOC_19.out.below hb20 (Nat.le_refl _))
      have HOAB_20 := Lib.hid (HOAB_19.out.below hb20 (Nat.le_refl _))
      have HOBA_20 := Lib.hid (HOBA_19.out.below hb20 (Nat.le_refl _))
      have HOBC_20 := Lib.hid (HOBC_19.out.below hb20 (Nat.le_refl _))
      have HOL_20 := Lib.hid (HOL_19.out.below hb20 (Nat.le_refl _))
      have HOR_20 := Lib.hid (HOR_19.out.below hb20 (Nat.le_refl _))
      have HOM_20 := Lib.hid (HOM_19.out.below hb20 (Nat.le_refl _))
      have HOM1_20 := Lib.hid (HOM1_19.out.below hb20 (Nat.le_refl _))
      have HOMC_20 := Lib.hid (HOMC_19.out.below hb20 (Nat.le_refl _))
      have HON2_20 := Lib.hid (HON2_19.out.below hb20 (Nat.le_refl _))
      have HOAM_20 := Lib.hid (HOAM_19.out.below hb20 (Nat.le_refl _))
      have HOO_20 := Lib.hid (HOO_19.out.below hb20 (Nat.le_refl _))
      have HOT_20 := Lib.hid (HOT_19.out.below hb20 (Nat.le_refl _))
      have HB20 := Lib.hid (HB19.out.trans (hb20.mono HB19.out.size))
      clear HOA_19 HOB_19 HOC_19 HOAB_19 HOBA_19 HOBC_19 HOL_19 HOR_19 HOM_19 HOM1_19 HOMC_19 HON2_19 HOAM_19 HOO_19 HOT_19 HB19 hb20
      go_wp2_with fail
      go_ret
      exact ⟨rfl, HB20.out⟩

end Go.Proofs.Ytdflgcfjfgojkaa
namespace Go.Proofs.Ytdflgcfjfgojkaa.partitionLattice
open Go.ChangeShapes Go.WideShapes Go.ChangeAt Go.RowKit

set_option maxRecDepth 100000 in
theorem lifted (os : Os) (started : os.Started) (H : Type) (enc : TypeId × Value → H) :
    ReturnsInHanded {} Try.checked os 7 .any (Rows.partitionLatticeSpec.pre6 enc Try.prog Try.f7 Rows.partitionLatticeRow.domain false) (Rows.partitionLatticeSpec.post enc Try.prog Try.f7 false true false false) := by
  refine returnsInHanded_of_change (C := Try.checked) ownNone started (by kernel_rfl) Try.func7
    (ChangeSpec.witness6 (enc := enc) (C := Try.checked) false ⟨#[], #[.slice none 0 0, .slice none 0 0, .slice none 0 0], []⟩ 8 (by kernel_rfl) (by kernel_rfl) (by kernel_rfl) (by kernel_rfl)) ?_
  intro W base args ds gs before hval0 hW hcnd _
  have hval : ∀ (j : Nat) t v, Try.f7.params[j]? = some t → args[j]? = some v → Value.okWide Try.prog W .any base t v := hval0
  have hW' := hW
  obtain ⟨p, q, hA0, hV, rfl, hfz, hnd⟩ := hW
  have hA : DataW.TrodAll enc Try.prog W 0 (fun _ => true) true Try.f7.params.toList args.toList ds p := hA0
  rw [Try.params7] at hA hval
  obtain ⟨v0, v1, v2, d0, d1, d2, p0, p1, p2, rfl, rfl, rfl, h0, h1, h2⟩ := trodAll_three hA
  obtain ⟨rfl, rfl⟩ := trodVars_none hV
  clear hA0 hval0
  simp only [List.append_nil] at hW'
  have hlt : ∀ x ∈ p0 ++ p1 ++ p2, x.block < W.heap.size := fun x hx => by simpa using hW'.lt x (by simpa using hx)
  have k0 := h0
  obtain ⟨a0, len0, cap0, rfl⟩ := okWide_slice Try.underlying39 (hval 0 39 v0 rfl rfl)
  obtain ⟨f0, g0⟩ := h0
  obtain ⟨A0, xs0, c0, e0, hT0, hl0, hm0⟩ := open_b g0
  simp [Value.cells] at e0
  obtain ⟨rfl, rfl, rfl⟩ := e0
  have k1 := h1
  obtain ⟨a1, len1, cap1, rfl⟩ := okWide_slice Try.underlying39 (hval 1 39 v1 rfl rfl)
  obtain ⟨f1, g1⟩ := h1
  obtain ⟨A1, xs1, c1, e1, hT1, hl1, hm1⟩ := open_b g1
  simp [Value.cells] at e1
  obtain ⟨rfl, rfl, rfl⟩ := e1
  have k2 := h2
  obtain ⟨a2, len2, cap2, rfl⟩ := okWide_slice Try.underlying39 (hval 2 39 v2 rfl rfl)
  obtain ⟨f2, g2⟩ := h2
  obtain ⟨A2, xs2, c2, e2, hT2, hl2, hm2⟩ := open_b g2
  simp [Value.cells] at e2
  obtain ⟨rfl, rfl, rfl⟩ := e2
  refine (lawLattice xs0 a0 cap0 xs1 a1 cap1 xs2 a2 cap2 W (Nat.le_trans hl0 hm0) hl0 hT0 (Nat.le_trans hl1 hm1) hl1 hT1 (Nat.le_trans hl2 hm2) hl2 hT2).mono fun e W' ⟨he, hg⟩ => ?_
  subst he
  exact ⟨_, rfl, _, _, _, [], p0 ++ p1 ++ p2, [], hW', trodAll_cons_mk (shut_bool Try.underlying4 _) trodAll_mk0, (by rw [List.append_assoc p0 p1 p2]; exact trodAll_mk3 (Below.trod laidOut (by kernel_rfl) (of_decide_eq_true (by kernel_rfl)) k0 hg (fun x hx => hlt x (List.mem_append_left _ (List.mem_append_left _ hx)))) (Below.trod laidOut (by kernel_rfl) (of_decide_eq_true (by kernel_rfl)) k1 hg (fun x hx => hlt x (List.mem_append_left _ (List.mem_append_right _ hx)))) (Below.trod laidOut (by kernel_rfl) (of_decide_eq_true (by kernel_rfl)) k2 hg (fun x hx => hlt x (List.mem_append_right _ hx)))), rfl, hg.frame _, fun h => by cases h⟩

theorem over : Rows.partitionLatticeRow.holds Try.pinned (OpenSpec.ofChange Rows.partitionLatticeSpec) :=
  OpenClaim.holds_of_wide 7 Try.f7 rfl rfl rfl rfl rfl rfl rfl ⟨rfl, rfl, rfl, rfl, rfl⟩ rfl rfl rfl rfl rfl (by kernel_rfl) Try.func7 (by kernel_rfl)
    (of_decide_eq_true (by kernel_rfl)) (by unfold Func.isWrapper; first | (rw [if_pos (by decide +kernel)]; kernel_rfl) | (rw [if_neg (by decide +kernel)]; exact ⟨rfl, rfl⟩))
    (fun os started H enc _ => lifted os started H enc)

theorem proved : Rows.PartitionLatticeSaid := over

end Go.Proofs.Ytdflgcfjfgojkaa.partitionLattice
