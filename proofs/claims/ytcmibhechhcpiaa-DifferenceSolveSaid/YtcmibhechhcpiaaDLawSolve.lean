/-
  DifferenceSolve: for every number and all tests the law returns true. No condition.
-/
import Derived.Test.YtcmibhechhcpiaaDSat
import Derived.Test.YtcmibhechhcpiaaDProg
import Derived.Test.YtcmibhechhcpiaaChecked
import Derived.Test.YtcmibhechhcpiaaRows
namespace Go.Proofs.Ytcmibhechhcpiaa
open Go.RowKit

set_option maxRecDepth 100000 in
set_option maxHeartbeats 4000000 in
theorem lawSolve (hp : PC) (n : Int) (xs : List Tst) (A : Option Addr) (c : Nat) (w : World) (hn : I64 n) (h64 : ∀ x ∈ xs, T64 x) (hl : xs.length ≤ maxLen) (hA : Tsts w w.heap.size A xs) :
    Calls Try.prog 3 #[.int .i64 n, .slice A xs.length c] w fun e w' => e = .returned (.bool true) ∧ Below w.heap.size w w' := by
  have HA := Lib.hid hA
  have H64 := Lib.hid h64
  unfold maxLen at hl
  clear hA h64
  by_cases h45 : 45 < xs.length
  · clear hn
    go_enter Try.func3, Try.ntmps3
    go_wp2_with fail
    refine (awake_any hp _).mono ?_
    rintro e w1 ⟨rfl, hb1⟩
    have HB1 := Lib.hid hb1
    clear hb1
    go_wp2_with fail
    refine (awake_any hp _).mono ?_
    rintro e w2 ⟨rfl, hb2⟩
    go_wp2_with fail
    go_ret
    exact ⟨rfl, HB1.out.trans (hb2.mono HB1.out.size)⟩
  · have hmf : ∀ (fn : Fn) (first cap : Array Value) (w : World), (Instr.makeFunc fn first cap).run Try.prog w = .ok (.func fn first cap) w := fun _ _ _ _ => rfl
    go_enter Try.func3, Try.ntmps3
    have HB0 := Lib.hid (Below.refl w.heap.size w)
    go_wp2_with fail
    refine (awake_any hp _).mono ?_
    rintro e w1 ⟨rfl, hb1⟩
    have HA_1 := Lib.hid (HA.out.up hb1)
    have HB1 := Lib.hid (HB0.out.trans (hb1.mono HB0.out.size))
    clear HA HB0 hb1
    go_wp2_with fail
    refine (cloneT_any xs _ _ _ _ (by omega) HA_1.out).mono ?_
    rintro e w2 ⟨A1, c1, rfl, hT, hb2⟩
    have HA_2 := Lib.hid (HA_1.out.up hb2)
    have HB2 := Lib.hid (HB1.out.trans (hb2.mono HB1.out.size))
    have HT_2 := Lib.hid hT
    clear HA_1 HB1 hT hb2
    go_wp2_with fail
    refine (hp.sol n xs _ _ _ hn H64.out (by omega) HT_2.out).mono ?_
    rintro e w3 ⟨A2, c2, rfl, hv, hb3⟩
    have HA_3 := Lib.hid (HA_2.out.up hb3)
    have HT_3 := Lib.hid (HT_2.out.up hb3)
    have HB3 := Lib.hid (HB2.out.trans (hb3.mono HB2.out.size))
    have HV_3 := Lib.hid hv
    clear HA_2 HT_2 HB2 hv hb3
    have hal := (Below.refl _ w3).alloc (Nat.le_refl _) (.cells #[.slice A2 (solR n xs).length c2] 24 (0, 0))
    have HA_a := Lib.hid (HA_3.out.up hal)
    have HT_a := Lib.hid (HT_3.out.up hal)
    have HV_a := Lib.hid (HV_3.out.up hal)
    have HC_a := Lib.hid (show CellAt _ w3.heap.size (.slice A2 (solR n xs).length c2) from ⟨cell_new w3 _ 24, by simp⟩)
    have HB_a := Lib.hid ((HB3.out).alloc HB3.out.size (.cells #[.slice A2 (solR n xs).length c2] 24 (0, 0)))
    clear hal HA_3 HT_3 HV_3 HB3
    go_wp2_with fail
    refine (solRf n xs _ _ _ hn H64.out (by omega) HA_a.out).mono ?_
    rintro e w4 ⟨A4, c4, rfl, hs, hb4⟩
    have HA_4 := Lib.hid (HA_a.out.up hb4)
    have HT_4 := Lib.hid (HT_a.out.up hb4)
    have HV_4 := Lib.hid (HV_a.out.up hb4)
    have HC_4 := Lib.hid (HC_a.out.up hb4)
    have HB4 := Lib.hid (HB_a.out.trans (hb4.mono HB_a.out.size))
    have HS_4 := Lib.hid hs
    clear HA_a HT_a HV_a HC_a HB_a hs hb4
    go_wp2_with fail
    refine (cloneT_any xs _ _ _ _ (by omega) HA_4.out).mono ?_
    rintro e w5 ⟨A5, c5, rfl, hT2, hb5⟩
    have HA_5 := Lib.hid (HA_4.out.up hb5)
    have HT_5 := Lib.hid (HT_4.out.up hb5)
    have HV_5 := Lib.hid (HV_4.out.up hb5)
    have HC_5 := Lib.hid (HC_4.out.up hb5)
    have HS_5 := Lib.hid (HS_4.out.up hb5)
    have HB5 := Lib.hid (HB4.out.trans (hb5.mono HB4.out.size))
    have HU_5 := Lib.hid hT2
    clear HA_4 HT_4 HV_4 HC_4 HS_4 HB4 hT2 hb5
    go_wp2_with fail
    refine (hp.val n xs _ _ _ hn H64.out (by omega) HU_5.out).mono ?_
    rintro e w6 ⟨rfl, hb6⟩
    have HA_6 := Lib.hid (HA_5.out.up hb6)
    have HT_6 := Lib.hid (HT_5.out.up hb6)
    have HV_6 := Lib.hid (HV_5.out.up hb6)
    have HC_6 := Lib.hid (HC_5.out.up hb6)
    have HS_6 := Lib.hid (HS_5.out.up hb6)
    have HU_6 := Lib.hid (HU_5.out.up hb6)
    have HB6 := Lib.hid (HB5.out.trans (hb6.mono HB5.out.size))
    clear HA_5 HT_5 HV_5 HC_5 HS_5 HU_5 HB5 hb6
    go_wp2_with fail
    refine (valR n xs _ _ _ hn H64.out (by omega) HA_6.out).mono ?_
    rintro e w7 ⟨rfl, hb7⟩
    have HA_7 := Lib.hid (HA_6.out.up hb7)
    have HT_7 := Lib.hid (HT_6.out.up hb7)
    have HV_7 := Lib.hid (HV_6.out.up hb7)
    have HC_7 := Lib.hid (HC_6.out.up hb7)
    have HS_7 := Lib.hid (HS_6.out.up hb7)
    have HU_7 := Lib.hid (HU_6.out.up hb7)
    have HB7 := Lib.hid (HB6.out.trans (hb7.mono HB6.out.size))
    clear HA_6 HT_6 HV_6 HC_6 HS_6 HU_6 HB6 hb7
    have HLN := Lib.hid (solR_len (n := n) (xs := xs))
    have hdt : decide (solR n xs = solR n xs) = true := decide_eq_true rfl
    have hvv : ((validS n xs : Int) != (validS n xs : Int)) = false := by simp
    obtain ⟨hcl, hcb⟩ := HC_7.out
    go_wp2_with fail
    refine (equal_any _ _ _ _ _ _ _ _ _ (by have := HLN.out; unfold maxLen; omega) HV_7.out HS_7.out).mono ?_
    rintro e w8 ⟨rfl, hb8⟩
    have HA_8 := Lib.hid (HA_7.out.up hb8)
    have HT_8 := Lib.hid (HT_7.out.up hb8)
    have HV_8 := Lib.hid (HV_7.out.up hb8)
    have HC_8 := Lib.hid (HC_7.out.up hb8)
    have HS_8 := Lib.hid (HS_7.out.up hb8)
    have HU_8 := Lib.hid (HU_7.out.up hb8)
    have HB8 := Lib.hid (HB7.out.trans (hb8.mono HB7.out.size))
    clear HA_7 HT_7 HV_7 HC_7 HS_7 HU_7 HB7 hb8
    by_cases he : solE n xs = 0
    · have HSO := Lib.hid (solE_zero he)
      obtain ⟨hcl2, hcb2⟩ := HC_8.out
      clear hcl hcb
      go_wp2_with fail
      refine (containsT_none _ xs _ _ _ (by omega) HA_8.out (fun x hx u hu => clo_false hp x (solR n xs) A2 c2 w3.heap.size u (H64.out x hx) (tst_fit HSO.out hx).1 (tst_fit HSO.out hx).2 sol_fit (by have := HLN.out; omega) (sol_holds HSO.out hx) (CellAt.up HC_8.out hu) (Reads.up HV_8.out hu))).mono ?_
      rintro e w9 ⟨rfl, hb9⟩
      have HA_9 := Lib.hid (HA_8.out.up hb9)
      have HT_9 := Lib.hid (HT_8.out.up hb9)
      have HV_9 := Lib.hid (HV_8.out.up hb9)
      have HC_9 := Lib.hid (HC_8.out.up hb9)
      have HS_9 := Lib.hid (HS_8.out.up hb9)
      have HU_9 := Lib.hid (HU_8.out.up hb9)
      have HB9 := Lib.hid (HB8.out.trans (hb9.mono HB8.out.size))
      clear HA_8 HT_8 HV_8 HC_8 HS_8 HU_8 HB8 hb9
      go_wp2_with fail
      go_ret
      exact ⟨rfl, HB9.out⟩
    · have t1 : ((solE n xs : Int) != 0) = true := by simp; omega
      clear hcl hcb
      go_wp2_with fail
      go_ret
      exact ⟨rfl, HB8.out⟩

end Go.Proofs.Ytcmibhechhcpiaa
namespace Go.Proofs.Ytcmibhechhcpiaa.differenceSolve
open Go.ChangeShapes Go.WideShapes Go.ChangeAt Go.RowKit Go.Deep

set_option maxRecDepth 100000 in
theorem lifted (os : Os) (started : os.Started) (H : Type) (enc : TypeId × Value → H) :
    ReturnsInHanded {} Try.checked os 3 .any (Rows.differenceSolveSpec.pre6 enc Try.prog Try.f3 Rows.differenceSolveRow.domain false) (Rows.differenceSolveSpec.post enc Try.prog Try.f3 false true false false) := by
  refine returnsInHanded_of_change (C := Try.checked) ownNone started (by kernel_rfl) Try.func3
    (ChangeSpec.witness6 (enc := enc) (C := Try.checked) false ⟨#[], #[.int .i64 0, .slice none 0 0], []⟩ 8 (by kernel_rfl) (by kernel_rfl) (by kernel_rfl) (by kernel_rfl)) ?_
  intro W base args ds gs before hval0 hW hcnd _
  have hval : ∀ (j : Nat) t v, Try.f3.params[j]? = some t → args[j]? = some v → Value.okWide Try.prog W .any base t v := hval0
  have hW' := hW
  obtain ⟨p, q, hA0, hV, rfl, hfz, hnd⟩ := hW
  have hA : DataW.TrodAll enc Try.prog W 0 (fun _ => true) true Try.f3.params.toList args.toList ds p := hA0
  rw [Try.params3] at hA hval
  obtain ⟨v0, v1, d0, d1, p0, p1, rfl, rfl, rfl, h0, h1⟩ := trodAll_two hA
  obtain ⟨rfl, rfl⟩ := trodVars_none hV
  clear hA0 hval0
  simp only [List.append_nil] at hW'
  have hlt : ∀ x ∈ p0 ++ p1, x.block < W.heap.size := fun x hx => by simpa using hW'.lt x (by simpa using hx)
  have k0 := h0
  obtain ⟨m0, rfl⟩ := okWide_int Try.underlying3 (hval 0 3 v0 rfl rfl)
  obtain ⟨f0, g0⟩ := h0
  obtain ⟨n0, e0, _, hw0⟩ := DataW.trod_int Try.underlying3 g0
  simp [Value.cells] at e0
  subst e0
  have k1 := h1
  obtain ⟨a1, len1, cap1, rfl⟩ := okWide_slice Try.underlying22 (hval 1 22 v1 rfl rfl)
  obtain ⟨f1, g1⟩ := h1
  obtain ⟨A1, xs1, c1, e1, hT1, hG1, hl1, hm1⟩ := open_t g1
  simp [Value.cells] at e1
  obtain ⟨rfl, rfl, rfl⟩ := e1
  refine (lawSolve pc m0 xs1 a1 cap1 W (bounds_i64 hw0) hG1 (Nat.le_trans hl1 hm1) hT1).mono fun e W' ⟨he, hg⟩ => ?_
  subst he
  exact ⟨_, rfl, _, _, _, [], p0 ++ p1, [], hW', trodAll_cons_mk (shut_bool Try.underlying4 _) trodAll_mk0, trodAll_mk2 (Below.trod laidOut (by kernel_rfl) (of_decide_eq_true (by kernel_rfl)) k0 hg (fun x hx => hlt x (List.mem_append_left _ hx))) (Below.trod laidOut (by kernel_rfl) (of_decide_eq_true (by kernel_rfl)) k1 hg (fun x hx => hlt x (List.mem_append_right _ hx))), rfl, hg.frame _, fun h => by cases h⟩

theorem over : Rows.differenceSolveRow.holds Try.pinned (OpenSpec.ofChange Rows.differenceSolveSpec) :=
  OpenClaim.holds_of_wide 3 Try.f3 rfl rfl rfl rfl rfl rfl rfl ⟨rfl, rfl, rfl, rfl, rfl⟩ rfl rfl rfl rfl rfl (by kernel_rfl) Try.func3 (by kernel_rfl)
    (of_decide_eq_true (by kernel_rfl)) (by unfold Func.isWrapper; first | (rw [if_pos (by decide +kernel)]; kernel_rfl) | (rw [if_neg (by decide +kernel)]; exact ⟨rfl, rfl⟩))
    (fun os started H enc _ => lifted os started H enc)

theorem proved : Rows.DifferenceSolveSaid := over

end Go.Proofs.Ytcmibhechhcpiaa.differenceSolve
