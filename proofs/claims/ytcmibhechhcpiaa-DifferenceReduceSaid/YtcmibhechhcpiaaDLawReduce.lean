/-
  DifferenceReduce: for every number and all tests the law returns true. No condition.
-/
import Derived.Test.YtcmibhechhcpiaaDLem
import Derived.Test.YtcmibhechhcpiaaDProg
import Derived.Test.YtcmibhechhcpiaaChecked
import Derived.Test.YtcmibhechhcpiaaRows
namespace Go.Proofs.Ytcmibhechhcpiaa
open Go.RowKit

set_option maxRecDepth 100000 in
set_option maxHeartbeats 4000000 in
theorem lawReduce (hp : PC) (n : Int) (xs : List Tst) (A : Option Addr) (c : Nat) (w : World) (hn : I64 n) (h64 : ∀ x ∈ xs, T64 x) (hl : xs.length ≤ maxLen) (hA : Tsts w w.heap.size A xs) :
    Calls Try.prog 8 #[.int .i64 n, .slice A xs.length c] w fun e w' => e = .returned (.bool true) ∧ Below w.heap.size w w' := by
  have HA := Lib.hid hA
  have H64 := Lib.hid h64
  unfold maxLen at hl
  clear hA h64
  by_cases h45 : 45 < xs.length
  · clear hn
    go_enter Try.func8, Try.ntmps8
    go_wp2_with fail
    refine (awake_any hp _).mono ?_
    rintro e w1 ⟨rfl, hb1⟩
    have HB1 := Lib.hid hb1
    clear hb1
    go_wp2_with fail
    refine (awake_any hp _).mono ?_
    rintro e w2 ⟨rfl, hb2⟩
    go_wp2_with fail
    go_ret
    exact ⟨rfl, HB1.out.trans (hb2.mono HB1.out.size)⟩
  · go_enter Try.func8, Try.ntmps8
    have HB0 := Lib.hid (Below.refl w.heap.size w)
    go_wp2_with fail
    refine (awake_any hp _).mono ?_
    rintro e w1 ⟨rfl, hb1⟩
    have HA_1 := Lib.hid (HA.out.up hb1)
    have HB1 := Lib.hid (HB0.out.trans (hb1.mono HB0.out.size))
    clear HA HB0 hb1
    go_wp2_with fail
    refine (cloneT_any xs _ _ _ _ (by omega) HA_1.out).mono ?_
    rintro e w2 ⟨A1, c1, rfl, hT, hb2⟩
    have HA_2 := Lib.hid (HA_1.out.up hb2)
    have HB2 := Lib.hid (HB1.out.trans (hb2.mono HB1.out.size))
    have HT_2 := Lib.hid hT
    clear HA_1 HB1 hT hb2
    go_wp2_with fail
    refine (hp.red n xs _ _ _ hn H64.out (by omega) HT_2.out).mono ?_
    rintro e w3 ⟨R, A2, c2, hR, rfl, hU, hb3⟩
    have HA_3 := Lib.hid (HA_2.out.up hb3)
    have HT_3 := Lib.hid (HT_2.out.up hb3)
    have HB3 := Lib.hid (HB2.out.trans (hb3.mono HB2.out.size))
    have HU_3 := Lib.hid hU
    have HR := Lib.hid hR
    clear hR
    clear HA_2 HT_2 HB2 hU hb3
    go_wp2_with fail
    refine (redRf n xs _ _ _ hn H64.out (by omega) HA_3.out).mono ?_
    rintro e w4 ⟨S, A3, c3, hS, rfl, hV, hb4⟩
    have HA_4 := Lib.hid (HA_3.out.up hb4)
    have HT_4 := Lib.hid (HT_3.out.up hb4)
    have HU_4 := Lib.hid (HU_3.out.up hb4)
    have HB4 := Lib.hid (HB3.out.trans (hb4.mono HB3.out.size))
    have HV_4 := Lib.hid hV
    obtain rfl := redIs_unique HR.out hS
    clear hS
    clear HA_3 HT_3 HU_3 HB3 hV hb4
    have HLN := Lib.hid (redIs_len HR.out)
    have hdt : decide (R = R) = true := decide_eq_true rfl
    by_cases he : validS n xs = 0
    · have HVZ := Lib.hid he
      rw [he]
      clear he
      go_wp2_with fail
      refine (sameTests_any _ _ _ _ _ _ _ _ _ (by have := HLN.out; unfold maxLen; omega) HU_4.out HV_4.out).mono ?_
      rintro e w5 ⟨rfl, hb5⟩
      have HA_5 := Lib.hid (HA_4.out.up hb5)
      have HT_5 := Lib.hid (HT_4.out.up hb5)
      have HU_5 := Lib.hid (HU_4.out.up hb5)
      have HV_5 := Lib.hid (HV_4.out.up hb5)
      have HB5 := Lib.hid (HB4.out.trans (hb5.mono HB4.out.size))
      clear HA_4 HT_4 HU_4 HV_4 HB4 hb5
      have HIM : Hid (∀ (k : Nat) (hk : k < xs.length) (u : World), Tsts u u.heap.size A2 R → Calls Try.prog 32 #[.int .i64 n, .slice A2 R.length c2, tval xs[k]] u fun e w' => e = .returned (.tuple #[.bool true, .int .i64 0]) ∧ Below u.heap.size u w') := Lib.hid fun k hk u hu => by
        refine (hp.imp n R A2 c2 xs[k] u hn (red_64 HR.out H64.out) (H64.out _ (List.getElem_mem hk)) (by have := HLN.out; omega) hu).mono ?_
        rintro e w' ⟨b, hb, rfl, h2⟩
        obtain ⟨rfl, h3⟩ := red_impl HR.out HVZ.out (List.getElem_mem hk) hb
        rw [h3]
        exact ⟨rfl, h2⟩
      go_wp2_with fail
      go_loopw [57] (fun ii wr => ∃ k : Nat, k ≤ xs.length ∧ ii = .int .i64 k ∧ Tsts wr wr.heap.size A xs ∧ Tsts wr wr.heap.size A2 R ∧ Below w.heap.size w wr) (fun ii _ => xs.length - (intOf ii).toNat)
      case atStart => exact ⟨0, Nat.zero_le _, rfl, HA_5.out, HU_5.out, HB5.out⟩
      case round =>
        obtain ⟨k, hk, rfl, hA, hU, hB⟩ := hrel
        by_cases hlt : k < xs.length
        · obtain ⟨b, off, rfl, hbb, k0, k1, k2, k3, k4⟩ := Tsts.cells hA hlt
          have HI := Lib.hid (HIM.out k hlt)
          generalize xs[k] = x at k0 k1 k2 k3 k4 HI
          obtain ⟨q, lv, la, rv, ra⟩ := x
          dsimp only at k0 k1 k2 k3 k4 HI
          have i0 : (0 : Int) ≤ (k : Int) := by omega
          have i1 : (k : Int) < (xs.length : Int) := by omega
          have i2 : ((k : Int)).toNat = k := by omega
          have HAr := Lib.hid (hA.up ((Below.refl _ wr).alloc (Nat.le_refl _) (.cells #[.int .i64 q, .int .i64 lv, .int .i64 la, .int .i64 rv, .int .i64 ra] 32 (0, 0))))
          have HUr := Lib.hid (hU.up ((Below.refl _ wr).alloc (Nat.le_refl _) (.cells #[.int .i64 q, .int .i64 lv, .int .i64 la, .int .i64 rv, .int .i64 ra] 32 (0, 0))))
          have HBr := Lib.hid hB
          have hszr := hB.size
          clear hA hU hB
          go_wp2_with fail
          refine (HI.out _ HUr.out).mono ?_
          rintro e wi ⟨rfl, hbi⟩
          have HAi := Lib.hid (HAr.out.up hbi)
          have HUi := Lib.hid (HUr.out.up hbi)
          have HBi := Lib.hid ((HBr.out.alloc hszr _).trans (hbi.mono (by simp; omega)))
          clear hbi HAr HUr HBr k0 k1 k2 k3 k4
          go_wp2_with fail
          go_roundw
          case rel => exact ⟨k + 1, by omega, by go_num, HAi.out, HUi.out, HBi.out⟩
          case measure => simp [intOf]; omega
        · have HBr := Lib.hid hB
          clear hA hU hB
          go_wp2_with fail
          go_ret
          exact ⟨rfl, HBr.out⟩
    · have t1 : ((validS n xs : Int) != 0) = true := by simp; omega
      generalize validS n xs = e1 at t1 ⊢
      go_wp2_with fail
      refine (sameTests_any _ _ _ _ _ _ _ _ _ (by have := HLN.out; unfold maxLen; omega) HU_4.out HV_4.out).mono ?_
      rintro e w5 ⟨rfl, hb5⟩
      have HA_5 := Lib.hid (HA_4.out.up hb5)
      have HT_5 := Lib.hid (HT_4.out.up hb5)
      have HU_5 := Lib.hid (HU_4.out.up hb5)
      have HV_5 := Lib.hid (HV_4.out.up hb5)
      have HB5 := Lib.hid (HB4.out.trans (hb5.mono HB4.out.size))
      clear HA_4 HT_4 HU_4 HV_4 HB4 hb5
      go_wp2_with fail
      refine (sameTests_any _ _ _ _ _ _ _ _ _ (by have := HLN.out; unfold maxLen; omega) HU_5.out HV_5.out).mono ?_
      rintro e w6 ⟨rfl, hb6⟩
      have HA_6 := Lib.hid (HA_5.out.up hb6)
      have HT_6 := Lib.hid (HT_5.out.up hb6)
      have HU_6 := Lib.hid (HU_5.out.up hb6)
      have HV_6 := Lib.hid (HV_5.out.up hb6)
      have HB6 := Lib.hid (HB5.out.trans (hb6.mono HB5.out.size))
      clear HA_5 HT_5 HU_5 HV_5 HB5 hb6
      go_wp2_with fail
      go_ret
      exact ⟨rfl, HB6.out⟩

end Go.Proofs.Ytcmibhechhcpiaa
namespace Go.Proofs.Ytcmibhechhcpiaa.differenceReduce
open Go.ChangeShapes Go.WideShapes Go.ChangeAt Go.RowKit Go.Deep

set_option maxRecDepth 100000 in
theorem lifted (os : Os) (started : os.Started) (H : Type) (enc : TypeId × Value → H) :
    ReturnsInHanded {} Try.checked os 8 .any (Rows.differenceReduceSpec.pre6 enc Try.prog Try.f8 Rows.differenceReduceRow.domain false) (Rows.differenceReduceSpec.post enc Try.prog Try.f8 false true false false) := by
  refine returnsInHanded_of_change (C := Try.checked) ownNone started (by kernel_rfl) Try.func8
    (ChangeSpec.witness6 (enc := enc) (C := Try.checked) false ⟨#[], #[.int .i64 0, .slice none 0 0], []⟩ 8 (by kernel_rfl) (by kernel_rfl) (by kernel_rfl) (by kernel_rfl)) ?_
  intro W base args ds gs before hval0 hW hcnd _
  have hval : ∀ (j : Nat) t v, Try.f8.params[j]? = some t → args[j]? = some v → Value.okWide Try.prog W .any base t v := hval0
  have hW' := hW
  obtain ⟨p, q, hA0, hV, rfl, hfz, hnd⟩ := hW
  have hA : DataW.TrodAll enc Try.prog W 0 (fun _ => true) true Try.f8.params.toList args.toList ds p := hA0
  rw [Try.params8] at hA hval
  obtain ⟨v0, v1, d0, d1, p0, p1, rfl, rfl, rfl, h0, h1⟩ := trodAll_two hA
  obtain ⟨rfl, rfl⟩ := trodVars_none hV
  clear hA0 hval0
  simp only [List.append_nil] at hW'
  have hlt : ∀ x ∈ p0 ++ p1, x.block < W.heap.size := fun x hx => by simpa using hW'.lt x (by simpa using hx)
  have k0 := h0
  obtain ⟨m0, rfl⟩ := okWide_int Try.underlying3 (hval 0 3 v0 rfl rfl)
  obtain ⟨f0, g0⟩ := h0
  obtain ⟨n0, e0, _, hw0⟩ := DataW.trod_int Try.underlying3 g0
  simp [Value.cells] at e0
  subst e0
  have k1 := h1
  obtain ⟨a1, len1, cap1, rfl⟩ := okWide_slice Try.underlying22 (hval 1 22 v1 rfl rfl)
  obtain ⟨f1, g1⟩ := h1
  obtain ⟨A1, xs1, c1, e1, hT1, hG1, hl1, hm1⟩ := open_t g1
  simp [Value.cells] at e1
  obtain ⟨rfl, rfl, rfl⟩ := e1
  refine (lawReduce pc m0 xs1 a1 cap1 W (bounds_i64 hw0) hG1 (Nat.le_trans hl1 hm1) hT1).mono fun e W' ⟨he, hg⟩ => ?_
  subst he
  exact ⟨_, rfl, _, _, _, [], p0 ++ p1, [], hW', trodAll_cons_mk (shut_bool Try.underlying4 _) trodAll_mk0, trodAll_mk2 (Below.trod laidOut (by kernel_rfl) (of_decide_eq_true (by kernel_rfl)) k0 hg (fun x hx => hlt x (List.mem_append_left _ hx))) (Below.trod laidOut (by kernel_rfl) (of_decide_eq_true (by kernel_rfl)) k1 hg (fun x hx => hlt x (List.mem_append_right _ hx))), rfl, hg.frame _, fun h => by cases h⟩

theorem over : Rows.differenceReduceRow.holds Try.pinned (OpenSpec.ofChange Rows.differenceReduceSpec) :=
  OpenClaim.holds_of_wide 8 Try.f8 rfl rfl rfl rfl rfl rfl rfl ⟨rfl, rfl, rfl, rfl, rfl⟩ rfl rfl rfl rfl rfl (by kernel_rfl) Try.func8 (by kernel_rfl)
    (of_decide_eq_true (by kernel_rfl)) (by unfold Func.isWrapper; first | (rw [if_pos (by decide +kernel)]; kernel_rfl) | (rw [if_neg (by decide +kernel)]; exact ⟨rfl, rfl⟩))
    (fun os started H enc _ => lifted os started H enc)

theorem proved : Rows.DifferenceReduceSaid := over

end Go.Proofs.Ytcmibhechhcpiaa.differenceReduce
