/-
  DifferenceEither: for every number and all codes the law returns true. No condition.
-/
import Derived.Test.YtcmibhechhcpiaaDLem
import Derived.Test.YtcmibhechhcpiaaDProg
import Derived.Test.YtcmibhechhcpiaaChecked
import Derived.Test.YtcmibhechhcpiaaRows
namespace Go.Proofs.Ytcmibhechhcpiaa
open Go.RowKit

set_option maxRecDepth 100000 in
set_option maxHeartbeats 4000000 in
theorem lawEither (hp : PC) (n : Int) (cs : List Code4) (A : Option Addr) (c : Nat) (w : World) (hn : 0 ≤ n ∧ n ≤ 255) (h8 : ∀ x ∈ cs, C8 x) (hl : cs.length ≤ maxLen) (hA : Codes w w.heap.size A cs) :
    Calls Try.prog 9 #[.int .u8 n, .slice A cs.length c] w fun e w' => e = .returned (.bool true) ∧ Below w.heap.size w w' := by
  have HA := Lib.hid hA
  have H8 := Lib.hid h8
  unfold maxLen at hl
  clear hA h8
  by_cases h45 : 20 < cs.length
  · clear hn
    go_enter Try.func9, Try.ntmps9
    go_wp2_with fail
    refine (awake_any hp _).mono ?_
    rintro e w1 ⟨rfl, hb1⟩
    have HB1 := Lib.hid hb1
    clear hb1
    go_wp2_with fail
    refine (awake_any hp _).mono ?_
    rintro e w2 ⟨rfl, hb2⟩
    go_wp2_with fail
    go_ret
    exact ⟨rfl, HB1.out.trans (hb2.mono HB1.out.size)⟩
  · obtain ⟨n0, n1⟩ := hn
    have q0 := Int.emod_nonneg n (show (6 : Int) ≠ 0 by omega)
    have q1 := Int.emod_lt_of_pos n (show (0 : Int) < 6 by omega)
    have HG := Lib.hid (fewS_good q0 cs)
    have HG64 := Lib.hid (fun x hx => good_64 (by omega) (fewS_good q0 cs x hx))
    have HLN := Lib.hid (fewS_len (n % 6) cs)
    have HEI := Lib.hid (either_E (n := n % 6) (xs := fewS (n % 6) cs) (validS_zero.2 ⟨⟨q0, by omega⟩, by rw [fewS_len]; omega, fewS_good q0 cs⟩))
    go_enter Try.func9, Try.ntmps9
    have HB0 := Lib.hid (Below.refl w.heap.size w)
    go_wp2_with fail
    refine (awake_any hp _).mono ?_
    rintro e w1 ⟨rfl, hb1⟩
    have HA_1 := Lib.hid (HA.out.up hb1)
    have HB1 := Lib.hid (HB0.out.trans (hb1.mono HB0.out.size))
    clear HA HB0 hb1
    go_wp2_with fail
    refine (few_any n cs _ _ _ n0 n1 (by omega) H8.out HA_1.out).mono ?_
    rintro e w2 ⟨v, rfl, ho, hb2⟩
    have HA_2 := Lib.hid (HA_1.out.up hb2)
    have HB2 := Lib.hid (HB1.out.trans (hb2.mono HB1.out.size))
    obtain ⟨A1, c1, rfl, hT⟩ := OwnE.reads ho
    have HT := Lib.hid hT
    clear ho hT
    clear HA_1 HB1 hb2
    go_wp2_with fail
    refine (hp.sol (n % 6) (fewS (n % 6) cs) _ _ _ (by omega) HG64.out (by rw [HLN.out]; omega) HT.out).mono ?_
    rintro e w3 ⟨A2, c2, rfl, hv, hb3⟩
    have HA_3 := Lib.hid (HA_2.out.up hb3)
    have HT_3 := Lib.hid (HT.out.up hb3)
    have HB3 := Lib.hid (HB2.out.trans (hb3.mono HB2.out.size))
    have HV_3 := Lib.hid hv
    clear HA_2 HT HB2 hv hb3
    go_wp2_with fail
    refine (hp.ref (n % 6) (fewS (n % 6) cs) _ _ _ (by omega) HG64.out (by rw [HLN.out]; omega) HT_3.out).mono ?_
    rintro e w4 ⟨R, A3, c3, hR, rfl, hU, hb4⟩
    have HA_4 := Lib.hid (HA_3.out.up hb4)
    have HT_4 := Lib.hid (HT_3.out.up hb4)
    have HV_4 := Lib.hid (HV_3.out.up hb4)
    have HB4 := Lib.hid (HB3.out.trans (hb4.mono HB3.out.size))
    have HU_4 := Lib.hid hU
    clear hR
    clear HA_3 HT_3 HV_3 HB3 hU hb4
    rcases HEI.out with ⟨h1, h2⟩ | ⟨h1, h2⟩
    all_goals
      rw [h1, h2]
      go_wp2_with fail
      go_ret
      exact ⟨rfl, HB4.out⟩

end Go.Proofs.Ytcmibhechhcpiaa
namespace Go.Proofs.Ytcmibhechhcpiaa.differenceEither
open Go.ChangeShapes Go.WideShapes Go.ChangeAt Go.RowKit Go.Deep

set_option maxRecDepth 100000 in
theorem lifted (os : Os) (started : os.Started) (H : Type) (enc : TypeId × Value → H) :
    ReturnsInHanded {} Try.checked os 9 .any (Rows.differenceEitherSpec.pre6 enc Try.prog Try.f9 Rows.differenceEitherRow.domain false) (Rows.differenceEitherSpec.post enc Try.prog Try.f9 false true false false) := by
  refine returnsInHanded_of_change (C := Try.checked) ownNone started (by kernel_rfl) Try.func9
    (ChangeSpec.witness6 (enc := enc) (C := Try.checked) false ⟨#[], #[.int .u8 0, .slice none 0 0], []⟩ 8 (by kernel_rfl) (by kernel_rfl) (by kernel_rfl) (by kernel_rfl)) ?_
  intro W base args ds gs before hval0 hW hcnd _
  have hval : ∀ (j : Nat) t v, Try.f9.params[j]? = some t → args[j]? = some v → Value.okWide Try.prog W .any base t v := hval0
  have hW' := hW
  obtain ⟨p, q, hA0, hV, rfl, hfz, hnd⟩ := hW
  have hA : DataW.TrodAll enc Try.prog W 0 (fun _ => true) true Try.f9.params.toList args.toList ds p := hA0
  rw [Try.params9] at hA hval
  obtain ⟨v0, v1, d0, d1, p0, p1, rfl, rfl, rfl, h0, h1⟩ := trodAll_two hA
  obtain ⟨rfl, rfl⟩ := trodVars_none hV
  clear hA0 hval0
  simp only [List.append_nil] at hW'
  have hlt : ∀ x ∈ p0 ++ p1, x.block < W.heap.size := fun x hx => by simpa using hW'.lt x (by simpa using hx)
  have k0 := h0
  obtain ⟨m0, rfl⟩ := okWide_int Try.underlying5 (hval 0 5 v0 rfl rfl)
  obtain ⟨f0, g0⟩ := h0
  obtain ⟨n0, e0, _, hw0⟩ := DataW.trod_int Try.underlying5 g0
  simp [Value.cells] at e0
  subst e0
  have k1 := h1
  obtain ⟨a1, len1, cap1, rfl⟩ := okWide_slice Try.underlying56 (hval 1 56 v1 rfl rfl)
  obtain ⟨f1, g1⟩ := h1
  obtain ⟨A1, xs1, c1, e1, hT1, hG1, hl1, hm1⟩ := open_c g1
  simp [Value.cells] at e1
  obtain ⟨rfl, rfl, rfl⟩ := e1
  refine (lawEither pc m0 xs1 a1 cap1 W (bounds_u8 hw0) hG1 (Nat.le_trans hl1 hm1) hT1).mono fun e W' ⟨he, hg⟩ => ?_
  subst he
  exact ⟨_, rfl, _, _, _, [], p0 ++ p1, [], hW', trodAll_cons_mk (shut_bool Try.underlying4 _) trodAll_mk0, trodAll_mk2 (Below.trod laidOut (by kernel_rfl) (of_decide_eq_true (by kernel_rfl)) k0 hg (fun x hx => hlt x (List.mem_append_left _ hx))) (Below.trod laidOut (by kernel_rfl) (of_decide_eq_true (by kernel_rfl)) k1 hg (fun x hx => hlt x (List.mem_append_right _ hx))), rfl, hg.frame _, fun h => by cases h⟩

theorem over : Rows.differenceEitherRow.holds Try.pinned (OpenSpec.ofChange Rows.differenceEitherSpec) :=
  OpenClaim.holds_of_wide 9 Try.f9 rfl rfl rfl rfl rfl rfl rfl ⟨rfl, rfl, rfl, rfl, rfl⟩ rfl rfl rfl rfl rfl (by kernel_rfl) Try.func9 (by kernel_rfl)
    (of_decide_eq_true (by kernel_rfl)) (by unfold Func.isWrapper; first | (rw [if_pos (by decide +kernel)]; kernel_rfl) | (rw [if_neg (by decide +kernel)]; exact ⟨rfl, rfl⟩))
    (fun os started H enc _ => lifted os started H enc)

theorem proved : Rows.DifferenceEitherSaid := over

end Go.Proofs.Ytcmibhechhcpiaa.differenceEither
