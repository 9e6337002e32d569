/-
  DifferenceCheck: for every number, all tests and all uses the law returns true. No condition.
-/
import Derived.Test.YtcmibhechhcpiaaDLem
import Derived.Test.YtcmibhechhcpiaaDProg
import Derived.Test.YtcmibhechhcpiaaChecked
import Derived.Test.YtcmibhechhcpiaaRows
namespace Go.Proofs.Ytcmibhechhcpiaa
open Go.RowKit

set_option maxRecDepth 100000 in
set_option maxHeartbeats 4000000 in
theorem lawCheck (hp : PC) (n : Int) (xs : List Tst) (A : Option Addr) (c : Nat) (r : List (Int × Int)) (A2 : Option Addr) (c2 : Nat) (w : World) (hn : I64 n) (h64 : ∀ x ∈ xs, T64 x) (hl : xs.length ≤ maxLen) (hA : Tsts w w.heap.size A xs) (h642 : ∀ u ∈ r, I64 u.1 ∧ I64 u.2) (hl2 : r.length ≤ maxLen) (hA2 : Uses w w.heap.size A2 r) :
    Calls Try.prog 5 #[.int .i64 n, .slice A xs.length c, .slice A2 r.length c2] w fun e w' => e = .returned (.bool true) ∧ Below w.heap.size w w' := by
  have HA := Lib.hid hA
  have H64 := Lib.hid h64
  unfold maxLen at hl
  unfold maxLen at hl2
  have HR := Lib.hid hA2
  have H642 := Lib.hid h642
  clear hA h64 hA2 h642
  by_cases h45 : 45 < xs.length
  · clear hn
    go_enter Try.func5, Try.ntmps5
    go_wp2_with fail
    refine (awake_any hp _).mono ?_
    rintro e w1 ⟨rfl, hb1⟩
    have HB1 := Lib.hid hb1
    clear hb1
    go_wp2_with fail
    refine (awake_any hp _).mono ?_
    rintro e w2 ⟨rfl, hb2⟩
    go_wp2_with fail
    go_ret
    exact ⟨rfl, HB1.out.trans (hb2.mono HB1.out.size)⟩
  · by_cases h452 : 45 < r.length
    · clear hn
      go_enter Try.func5, Try.ntmps5
      go_wp2_with fail
      refine (awake_any hp _).mono ?_
      rintro e w1 ⟨rfl, hb1⟩
      have HB1 := Lib.hid hb1
      clear hb1
      go_wp2_with fail
      refine (awake_any hp _).mono ?_
      rintro e w2 ⟨rfl, hb2⟩
      go_wp2_with fail
      go_ret
      exact ⟨rfl, HB1.out.trans (hb2.mono HB1.out.size)⟩
    · go_enter Try.func5, Try.ntmps5
      have HB0 := Lib.hid (Below.refl w.heap.size w)
      go_wp2_with fail
      refine (awake_any hp _).mono ?_
      rintro e w1 ⟨rfl, hb1⟩
      have HA_1 := Lib.hid (HA.out.up hb1)
      have HR_1 := Lib.hid (HR.out.up hb1)
      have HB1 := Lib.hid (HB0.out.trans (hb1.mono HB0.out.size))
      clear HA HR HB0 hb1
      go_wp2_with fail
      refine (cloneT_any xs _ _ _ _ (by omega) HA_1.out).mono ?_
      rintro e w2 ⟨A1, c1, rfl, hT, hb2⟩
      have HA_2 := Lib.hid (HA_1.out.up hb2)
      have HR_2 := Lib.hid (HR_1.out.up hb2)
      have HB2 := Lib.hid (HB1.out.trans (hb2.mono HB1.out.size))
      have HT_2 := Lib.hid hT
      clear HA_1 HR_1 HB1 hT hb2
      go_wp2_with fail
      refine (cloneU_any r _ _ _ _ (by omega) HR_2.out).mono ?_
      rintro e w3 ⟨A3, c3, rfl, hU, hb3⟩
      have HA_3 := Lib.hid (HA_2.out.up hb3)
      have HR_3 := Lib.hid (HR_2.out.up hb3)
      have HT_3 := Lib.hid (HT_2.out.up hb3)
      have HB3 := Lib.hid (HB2.out.trans (hb3.mono HB2.out.size))
      have HU_3 := Lib.hid hU
      clear HA_2 HR_2 HT_2 HB2 hU hb3
      go_wp2_with fail
      refine (hp.chk n xs _ _ r _ _ _ hn H64.out H642.out (by omega) (by omega) HT_3.out HU_3.out).mono ?_
      rintro e w4 ⟨rfl, hb4⟩
      have HA_4 := Lib.hid (HA_3.out.up hb4)
      have HR_4 := Lib.hid (HR_3.out.up hb4)
      have HT_4 := Lib.hid (HT_3.out.up hb4)
      have HU_4 := Lib.hid (HU_3.out.up hb4)
      have HB4 := Lib.hid (HB3.out.trans (hb4.mono HB3.out.size))
      clear HA_3 HR_3 HT_3 HU_3 HB3 hb4
      go_wp2_with fail
      refine (chkRf n xs _ _ r _ _ _ hn H64.out H642.out (by omega) (by omega) HA_4.out HR_4.out).mono ?_
      rintro e w5 ⟨rfl, hb5⟩
      have HA_5 := Lib.hid (HA_4.out.up hb5)
      have HR_5 := Lib.hid (HR_4.out.up hb5)
      have HT_5 := Lib.hid (HT_4.out.up hb5)
      have HU_5 := Lib.hid (HU_4.out.up hb5)
      have HB5 := Lib.hid (HB4.out.trans (hb5.mono HB4.out.size))
      clear HA_4 HR_4 HT_4 HU_4 HB4 hb5
      have HN := Lib.hid (check_sol (n := n) (xs := xs) (r := r))
      generalize checkS n xs r = b at HN ⊢
      have tb : (b != b) = false := by simp
      go_wp2_with fail
      refine (hp.sol n xs _ _ _ hn H64.out (by omega) HA_5.out).mono ?_
      rintro e w6 ⟨A4, c4, rfl, hv, hb6⟩
      have HA_6 := Lib.hid (HA_5.out.up hb6)
      have HR_6 := Lib.hid (HR_5.out.up hb6)
      have HT_6 := Lib.hid (HT_5.out.up hb6)
      have HU_6 := Lib.hid (HU_5.out.up hb6)
      have HB6 := Lib.hid (HB5.out.trans (hb6.mono HB5.out.size))
      have HV_6 := Lib.hid hv
      clear HA_5 HR_5 HT_5 HU_5 HB5 hv hb6
      cases b
      case false =>
        go_wp2_with fail
        go_ret
        exact ⟨rfl, HB6.out⟩
      case true =>
        have t1 := HN.out rfl
        generalize solE n xs = e1 at t1 ⊢
        subst t1
        go_wp2_with fail
        go_ret
        exact ⟨rfl, HB6.out⟩

end Go.Proofs.Ytcmibhechhcpiaa
namespace Go.Proofs.Ytcmibhechhcpiaa.differenceCheck
open Go.ChangeShapes Go.WideShapes Go.ChangeAt Go.RowKit Go.Deep

set_option maxRecDepth 100000 in
theorem lifted (os : Os) (started : os.Started) (H : Type) (enc : TypeId × Value → H) :
    ReturnsInHanded {} Try.checked os 5 .any (Rows.differenceCheckSpec.pre6 enc Try.prog Try.f5 Rows.differenceCheckRow.domain false) (Rows.differenceCheckSpec.post enc Try.prog Try.f5 false true false false) := by
  refine returnsInHanded_of_change (C := Try.checked) ownNone started (by kernel_rfl) Try.func5
    (ChangeSpec.witness6 (enc := enc) (C := Try.checked) false ⟨#[], #[.int .i64 0, .slice none 0 0, .slice none 0 0], []⟩ 8 (by kernel_rfl) (by kernel_rfl) (by kernel_rfl) (by kernel_rfl)) ?_
  intro W base args ds gs before hval0 hW hcnd _
  have hval : ∀ (j : Nat) t v, Try.f5.params[j]? = some t → args[j]? = some v → Value.okWide Try.prog W .any base t v := hval0
  have hW' := hW
  obtain ⟨p, q, hA0, hV, rfl, hfz, hnd⟩ := hW
  have hA : DataW.TrodAll enc Try.prog W 0 (fun _ => true) true Try.f5.params.toList args.toList ds p := hA0
  rw [Try.params5] at hA hval
  obtain ⟨v0, v1, v2, d0, d1, d2, p0, p1, p2, rfl, rfl, rfl, h0, h1, h2⟩ := trodAll_three hA
  obtain ⟨rfl, rfl⟩ := trodVars_none hV
  clear hA0 hval0
  simp only [List.append_nil] at hW'
  have hlt : ∀ x ∈ p0 ++ p1 ++ p2, x.block < W.heap.size := fun x hx => by simpa using hW'.lt x (by simpa using hx)
  have k0 := h0
  obtain ⟨m0, rfl⟩ := okWide_int Try.underlying3 (hval 0 3 v0 rfl rfl)
  obtain ⟨f0, g0⟩ := h0
  obtain ⟨n0, e0, _, hw0⟩ := DataW.trod_int Try.underlying3 g0
  simp [Value.cells] at e0
  subst e0
  have k1 := h1
  obtain ⟨a1, len1, cap1, rfl⟩ := okWide_slice Try.underlying22 (hval 1 22 v1 rfl rfl)
  obtain ⟨f1, g1⟩ := h1
  obtain ⟨A1, xs1, c1, e1, hT1, hG1, hl1, hm1⟩ := open_t g1
  simp [Value.cells] at e1
  obtain ⟨rfl, rfl, rfl⟩ := e1
  have k2 := h2
  obtain ⟨a2, len2, cap2, rfl⟩ := okWide_slice Try.underlying39 (hval 2 39 v2 rfl rfl)
  obtain ⟨f2, g2⟩ := h2
  obtain ⟨A2, xs2, c2, e2, hT2, hG2, hl2, hm2⟩ := open_u g2
  simp [Value.cells] at e2
  obtain ⟨rfl, rfl, rfl⟩ := e2
  refine (lawCheck pc m0 xs1 a1 cap1 xs2 a2 cap2 W (bounds_i64 hw0) hG1 (Nat.le_trans hl1 hm1) hT1 hG2 (Nat.le_trans hl2 hm2) hT2).mono fun e W' ⟨he, hg⟩ => ?_
  subst he
  exact ⟨_, rfl, _, _, _, [], p0 ++ p1 ++ p2, [], hW', trodAll_cons_mk (shut_bool Try.underlying4 _) trodAll_mk0, (by rw [List.append_assoc p0 p1 p2]; exact trodAll_mk3 (Below.trod laidOut (by kernel_rfl) (of_decide_eq_true (by kernel_rfl)) k0 hg (fun x hx => hlt x (List.mem_append_left _ (List.mem_append_left _ hx)))) (Below.trod laidOut (by kernel_rfl) (of_decide_eq_true (by kernel_rfl)) k1 hg (fun x hx => hlt x (List.mem_append_left _ (List.mem_append_right _ hx)))) (Below.trod laidOut (by kernel_rfl) (of_decide_eq_true (by kernel_rfl)) k2 hg (fun x hx => hlt x (List.mem_append_right _ hx)))), rfl, hg.frame _, fun h => by cases h⟩

theorem over : Rows.differenceCheckRow.holds Try.pinned (OpenSpec.ofChange Rows.differenceCheckSpec) :=
  OpenClaim.holds_of_wide 5 Try.f5 rfl rfl rfl rfl rfl rfl rfl ⟨rfl, rfl, rfl, rfl, rfl⟩ rfl rfl rfl rfl rfl (by kernel_rfl) Try.func5 (by kernel_rfl)
    (of_decide_eq_true (by kernel_rfl)) (by unfold Func.isWrapper; first | (rw [if_pos (by decide +kernel)]; kernel_rfl) | (rw [if_neg (by decide +kernel)]; exact ⟨rfl, rfl⟩))
    (fun os started H enc _ => lifted os started H enc)

theorem proved : Rows.DifferenceCheckSaid := over

end Go.Proofs.Ytcmibhechhcpiaa.differenceCheck
