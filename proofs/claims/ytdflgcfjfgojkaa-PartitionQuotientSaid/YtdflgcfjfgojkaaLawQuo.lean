/-
  PartitionQuotient: for every slice of bytes the law returns true. No condition.
-/
import Derived.Test.YtdflgcfjfgojkaaUni
import Derived.Test.YtdflgcfjfgojkaaOpen
namespace Go.Proofs.Ytdflgcfjfgojkaa
open Go.RowKit

theorem quoL (us : List Nat) (m : Nat) (hm : rank us us.length = m) (A : Option Addr) (c : Nat) (w : World) (hv : V us) (h80 : us.length ≤ 80) (hA : Ints w w.heap.size A (toI us)) :
    Calls Try.prog 14 #[.slice A us.length c] w fun e w' => ∃ A' c', e = .returned (.tuple #[.slice A' us.length c', .int .i64 m, .int .i64 0]) ∧ Ints w' w'.heap.size A' (toI (quoS us)) ∧ Below w.heap.size w w' := by
  subst hm
  refine (quo_ok us A c w hv h80 hA).mono ?_
  rintro e w' ⟨v, rfl, ho, hb⟩
  obtain ⟨A', c', rfl, hT⟩ := ho.ints
  rw [quoS_length]
  exact ⟨A', c', rfl, hT, hb⟩
theorem clsL (us : List Nat) (m : Nat) (hm : rank us us.length = m) (A : Option Addr) (c : Nat) (w : World) (hv : V us) (h80 : us.length ≤ 80) (hA : Ints w w.heap.size A (toI us)) :
    Calls Try.prog 11 #[.slice A us.length c] w fun e w' => ∃ A' c', e = .returned (.tuple #[.slice A' m c', .int .i64 0]) ∧ OwnL w' w.heap.size (.slice A' m c') (classS us) ∧ Below w.heap.size w w' := by
  subst hm
  refine (cls_ok us A c w hv h80 hA).mono ?_
  rintro e w' ⟨v, rfl, ho, hb⟩
  obtain ⟨A', c', rfl⟩ := ho.slice
  rw [show (classS us).length = rank us us.length from clsTo_length us us.length] at ho ⊢
  exact ⟨A', c', rfl, ho, hb⟩

def sumTo (l : List (List Nat)) (i : Nat) : Nat := ((l.take i).map List.length).sum
theorem sumTo_succ {l : List (List Nat)} {i : Nat} (h : i < l.length) : sumTo l (i + 1) = sumTo l i + (l.getD i []).length := by
  unfold sumTo
  rw [List.take_succ_eq_append_getElem h, List.map_append, List.sum_append]
  simp [List.getD, h]
theorem sumTo_le (l : List (List Nat)) (i : Nat) : sumTo l i ≤ (l.map List.length).sum := by
  unfold sumTo
  induction l generalizing i with
  | nil => simp
  | cons a r ih =>
    cases i with
    | zero => simp
    | succ i => have := ih i; simp only [List.take_succ_cons, List.map_cons, List.sum_cons]; omega
theorem sumTo_all {l : List (List Nat)} {i : Nat} (h : l.length ≤ i) : sumTo l i = (l.map List.length).sum := by
  unfold sumTo
  rw [List.take_of_length_le h]

set_option maxRecDepth 100000 in
set_option maxHeartbeats 4000000 in
theorem lawQuo (bs : List Nat) (A : Option Addr) (c : Nat) (w : World) (hl : bs.length ≤ maxLen) (_hc : bs.length ≤ c) (hA : Byts w w.heap.size A bs) :
    Calls Try.prog 9 #[.slice A bs.length c] w fun e w' => e = .returned (.bool true) ∧ Below w.heap.size w w' := by
  have HA := Lib.hid (fun u (hb : Below w.heap.size w u) => made_any bs A c u hl (hA.up hb))
  have hv := V_made bs
  have hlen : (madeS bs).length ≤ 12 := by rw [madeS_length]; omega
  obtain ⟨m, hm⟩ : ∃ m, rank (madeS bs) (madeS bs).length = m := ⟨_, rfl⟩
  have hml : m ≤ (madeS bs).length := by rw [← hm]; exact rank_le _ _
  have HCL := Lib.hid (show (classS (madeS bs)).length = m from (clsTo_length _ _).trans hm)
  have HSUM := Lib.hid (show ((classS (madeS bs)).map List.length).sum = (madeS bs).length from cls_sum hv (Nat.le_refl _))
  have HCF := Lib.hid (fun i cl h => class_facts (i := i) (cl := cl) hv h)
  have HQA := Lib.hid (fun i h => quoS_at (p := madeS bs) (i := i) h)
  have HQL := Lib.hid (quoS_length (madeS bs))
  have HV := Lib.hid hv
  have HM := Lib.hid hm
  clear hA hv hm hl
  generalize madeS bs = us at HA hlen hml HCL HSUM HCF HQA HQL HV HM
  go_enter Try.func9, Try.ntmps9
  go_wp2_with fail
  refine (awake_any _).mono ?_
  rintro e w1 ⟨rfl, hb1⟩
  have HB1 := Lib.hid hb1
  clear hb1
  go_wp2_with fail
  refine (HA.out _ HB1.out).mono ?_
  rintro e w2 ⟨v2, rfl, ho2, hb2⟩
  obtain ⟨A2, c2, rfl, hT2⟩ := ho2.ints
  have HT2 := Lib.hid hT2
  have HB2 := Lib.hid (HB1.out.trans (hb2.mono HB1.out.size))
  clear ho2 hT2 hb2
  go_wp2_with fail
  refine (quoL us m HM.out _ _ _ HV.out (by omega) HT2.out).mono ?_
  rintro e w3 ⟨A3, c3, rfl, hT3, hb3⟩
  have HT2b := Lib.hid (HT2.out.up hb3)
  have HT3 := Lib.hid hT3
  have HB3 := Lib.hid (HB2.out.trans (hb3.mono HB2.out.size))
  clear hT3 hb3 HT2
  go_wp2_with fail
  refine (clsL us m HM.out _ _ _ HV.out (by omega) HT2b.out).mono ?_
  rintro e w4 ⟨A4, c4, rfl, ho4, hb4⟩
  have HT2c := Lib.hid (HT2b.out.up hb4)
  have HT3c := Lib.hid (HT3.out.up hb4)
  have HO4 := Lib.hid ho4
  have HB4 := Lib.hid (HB3.out.trans (hb4.mono HB3.out.size))
  clear ho4 hb4 HT2b HT3
  have s1 : ((us.length : Int) != (us.length : Int)) = false := by simp
  have s2 : ((m : Int) != (m : Int)) = false := by simp
  go_wp2_with fail
  clear s1 s2
  go_loopw [9, 50] (fun n x wr => ∃ i q : Nat, i ≤ m ∧ x = .int .i64 i ∧ n = .int .i64 (sumTo (classS us) i : Nat) ∧ wr = w4.drewN q) (fun _ x _ => m - (intOf x).toNat)
  case atStart => exact ⟨0, 0, Nat.zero_le _, rfl, rfl, rfl⟩
  case round =>
    obtain ⟨i, q, hi, rfl, rfl, rfl⟩ := hrel
    by_cases hlt : i < m
    · obtain ⟨b, cp, u, e1, hb, cu, hu⟩ := HO4.out.at (k := i) (by rw [HCL.out]; exact hlt)
      simp only [Value.slice.injEq] at e1
      obtain ⟨rfl, e1, rfl⟩ := e1
      clear e1
      obtain ⟨hpos, hf⟩ := HCF.out i ((classS us).getD i []) (by have := HCL.out; rw [List.getD, List.getElem?_eq_getElem (by omega)]; rfl)
      have hss := sumTo_succ (l := classS us) (i := i) (by rw [HCL.out]; exact hlt)
      have hsl := sumTo_le (classS us) (i + 1)
      rw [HSUM.out] at hsl
      obtain ⟨A5, c5, rfl, hT5⟩ := hu.ints
      have HT5 := Lib.hid hT5
      have HF := Lib.hid hf
      have HSS := Lib.hid hss
      have hsb : sumTo (classS us) i + ((classS us).getD i []).length ≤ 12 := by omega
      clear hu hT5 hf hsl hss
      generalize sumTo (classS us) i = s at HSS hsb ⊢
      generalize (classS us).getD i [] = cl at HT5 HF HSS hsb cu hpos
      go_wp2_with fail
      go_loopw [9, 57] (fun n x wr => ∃ j q : Nat, j ≤ cl.length ∧ x = .int .i64 j ∧ n = .int .i64 ((s + j : Nat) : Int) ∧ wr = w4.drewN q) (fun _ x _ => cl.length - (intOf x).toNat)
      case atStart => exact ⟨0, q, Nat.zero_le _, rfl, rfl, rfl⟩
      case round =>
        obtain ⟨j, q, hj, rfl, rfl, rfl⟩ := hrel
        by_cases hlj : j < cl.length
        · obtain ⟨f1, f2, f3⟩ := HF.out j hlj
          obtain ⟨b5, o5, rfl, _, hc5⟩ := HT5.out.atN hlj
          obtain ⟨b2, o2, rfl, _, hc2⟩ := HT2c.out.atN (k := at_ cl j) f1
          obtain ⟨b3, o3, rfl, _, hc3⟩ := HT3c.out.atN (k := at_ cl j) (by rw [HQL.out]; exact f1)
          have g1 := hc5 j hlj
          have g2 := hc5 0 hpos
          have g3 := hc2 (at_ cl j) f1
          have g4 := hc3 (at_ cl j) (by rw [HQL.out]; exact f1)
          rw [HQA.out _ f1, f2] at g4
          rw [f3] at g3
          rw [Nat.add_zero] at g2
          clear hc5 hc2 hc3 f2 f3
          generalize at_ cl j = k at f1 g1 g3 g4
          generalize at_ cl 0 = z at g2 g3
          have k0 : (0 : Int) ≤ (k : Int) := by omega
          have k1 : (k : Int) < (us.length : Int) := by omega
          have k2 : ((k : Int)).toNat = k := by omega
          have k3 : (0 : Int) < (cl.length : Int) := by omega
          have t1 : decide ((k : Int) < 0) = false := decide_eq_false (by omega)
          have t2 : decide ((us.length : Int) ≤ (k : Int)) = false := decide_eq_false (by omega)
          have t3 : decide (us.length ≤ k) = false := decide_eq_false (by omega)
          have t4 : ((i : Int) != (i : Int)) = false := by simp
          have t5 : ((z : Int) != (z : Int)) = false := by simp
          go_wp2_with fail
          go_quiet (fail)
          go_wp2_with fail
          go_roundw
          case rel => exact ⟨j + 1, _, by omega, by go_num, by go_num, rfl⟩
          case measure => simp [intOf]; omega
        · have e : j = cl.length := by omega
          subst e
          go_wp2_with fail
          go_roundw
          case rel => exact ⟨i + 1, _, by omega, by go_num, by rw [HSS.out], rfl⟩
          case measure => simp [intOf]; omega
    · have HS := Lib.hid (show sumTo (classS us) i = us.length by rw [sumTo_all (by rw [HCL.out]; omega), HSUM.out])
      rw [HS.out]
      have tt : ((us.length : Int) == (us.length : Int)) = true := by simp
      go_wp2_with fail
      go_ret
      exact ⟨rfl, below_draws HB4.out _⟩

end Go.Proofs.Ytdflgcfjfgojkaa
namespace Go.Proofs.Ytdflgcfjfgojkaa.partitionQuotient
open Go.ChangeShapes Go.WideShapes Go.ChangeAt Go.RowKit

set_option maxRecDepth 100000 in
theorem lifted (os : Os) (started : os.Started) (H : Type) (enc : TypeId × Value → H) :
    ReturnsInHanded {} Try.checked os 9 .any (Rows.partitionQuotientSpec.pre6 enc Try.prog Try.f9 Rows.partitionQuotientRow.domain false) (Rows.partitionQuotientSpec.post enc Try.prog Try.f9 false true false false) := by
  refine returnsInHanded_of_change (C := Try.checked) ownNone started (by kernel_rfl) Try.func9
    (ChangeSpec.witness6 (enc := enc) (C := Try.checked) false ⟨#[], #[.slice none 0 0], []⟩ 8 (by kernel_rfl) (by kernel_rfl) (by kernel_rfl) (by kernel_rfl)) ?_
  intro W base args ds gs before hval0 hW hcnd _
  have hval : ∀ (j : Nat) t v, Try.f9.params[j]? = some t → args[j]? = some v → Value.okWide Try.prog W .any base t v := hval0
  have hW' := hW
  obtain ⟨p, q, hA0, hV, rfl, hfz, hnd⟩ := hW
  have hA : DataW.TrodAll enc Try.prog W 0 (fun _ => true) true Try.f9.params.toList args.toList ds p := hA0
  rw [Try.params9] at hA hval
  obtain ⟨v0, d0, rfl, rfl, h0⟩ := trodAll_one hA
  obtain ⟨rfl, rfl⟩ := trodVars_none hV
  clear hA0 hval0
  simp only [List.append_nil] at hW'
  have hlt : ∀ x ∈ p, x.block < W.heap.size := fun x hx => by simpa using hW'.lt x (by simpa using hx)
  have k0 := h0
  obtain ⟨a0, len0, cap0, rfl⟩ := okWide_slice Try.underlying39 (hval 0 39 v0 rfl rfl)
  obtain ⟨f0, g0⟩ := h0
  obtain ⟨A0, xs0, c0, e0, hT0, hl0, hm0⟩ := open_b g0
  simp [Value.cells] at e0
  obtain ⟨rfl, rfl, rfl⟩ := e0
  refine (lawQuo xs0 a0 cap0 W (Nat.le_trans hl0 hm0) hl0 hT0).mono fun e W' ⟨he, hg⟩ => ?_
  subst he
  exact ⟨_, rfl, _, _, _, [], p, [], hW', trodAll_cons_mk (shut_bool Try.underlying4 _) trodAll_mk0, trodAll_mk1 (Below.trod laidOut (by kernel_rfl) (of_decide_eq_true (by kernel_rfl)) k0 hg (fun x hx => hlt x (hx))), rfl, hg.frame _, fun h => by cases h⟩

theorem over : Rows.partitionQuotientRow.holds Try.pinned (OpenSpec.ofChange Rows.partitionQuotientSpec) :=
  OpenClaim.holds_of_wide 9 Try.f9 rfl rfl rfl rfl rfl rfl rfl ⟨rfl, rfl, rfl, rfl, rfl⟩ rfl rfl rfl rfl rfl (by kernel_rfl) Try.func9 (by kernel_rfl)
    (of_decide_eq_true (by kernel_rfl)) (by unfold Func.isWrapper; first | (rw [if_pos (by decide +kernel)]; kernel_rfl) | (rw [if_neg (by decide +kernel)]; exact ⟨rfl, rfl⟩))
    (fun os started H enc _ => lifted os started H enc)

theorem proved : Rows.PartitionQuotientSaid := over

end Go.Proofs.Ytdflgcfjfgojkaa.partitionQuotient

