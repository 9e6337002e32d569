/-
  The statement TypesOrder: of every type graph that numbers describe the law answers true, and its arguments read as they did.
-/
import Derived.Test.YtgpcaofikmdpjaaTLawM
import Derived.Test.YtgpcaofikmdpjaaTEx
import Derived.Test.YtgpcaofikmdpjaaTProg
import Derived.Test.YtgpcaofikmdpjaaChecked
import Derived.Test.YtgpcaofikmdpjaaRows
namespace Go.Proofs.Ytgpcaofikmdpjaa
open Go.RowKit

set_option maxRecDepth 100000 in
set_option maxHeartbeats 8000000 in
theorem lawOrder (haw : AwC) (hp : TC) (qs : List (Nat × Nat)) (A : Option Addr) (c : Nat) (y : Nat × Nat × Nat) (w : World) (hQ : Byt qs ∧ Twos w w.heap.size A qs) (hy : y.1 < 256 ∧ y.2.1 < 256 ∧ y.2.2 < 256) :
    Calls Try.prog 8 #[.slice A qs.length c, .agg #[.int .u8 (y.1 : Int), .int .u8 (y.2.1 : Int), .int .u8 (y.2.2 : Int)]] w fun e w' => e = .returned (.bool true) ∧ Below w.heap.size w w' := by
  obtain ⟨y0, y1, y2⟩ := y
  dsimp only at hy ⊢
  obtain ⟨q0, q1, q2⟩ := hy
  have HAW := Lib.hid haw
  have HP := Lib.hid hp
  have HQ := Lib.hid hQ
  clear haw hp hQ
  go_enter Try.func8, Try.ntmps8
  go_wp2_with fail
  refine (HAW.out _).mono ?_
  rintro e w1 ⟨rfl, hb1⟩
  have hb1' := below_one' hb1
  have HB1 := Lib.hid hb1'
  have hz1 : w.heap.size + 1 ≤ w1.heap.size := by have := hb1'.size; simpa using this
  clear hb1 hb1'
  go_wp2_with fail
  refine (made_nil qs A c _ HQ.out.1 (Reads.up HQ.out.2 (box_below HB1.out))).mono ?_
  rintro e w2 ⟨⟨An, cn, Ae, ce, rfl, hcap, hty⟩, hb2⟩
  have hm := madeT_ok qs []
  generalize madeT qs [] = t at hcap hty hm ⊢
  have hb2' := HB1.out.trans (hb2.mono hz1)
  have x0 := (hb2'.cell (p := ⟨w.heap.size, 0, none⟩) (by simp)).trans (show _ = some (Value.int .u8 (y0 : Int)) from by simp)
  have x1 := (hb2'.cell (p := ⟨w.heap.size, 1, none⟩) (by simp)).trans (show _ = some (Value.int .u8 (y1 : Int)) from by simp)
  have x2 := (hb2'.cell (p := ⟨w.heap.size, 2, none⟩) (by simp)).trans (show _ = some (Value.int .u8 (y2 : Int)) from by simp)
  have hz2 : w.heap.size < w2.heap.size := by have := hb2.size; omega
  have HS0 := Lib.hid (Sit.start (cn := cn) (ce := ce) (box_below hb2') hty)
  have HIS := Lib.hid (fun a b r u => is_call (An := An) (Ae := Ae) HP.out hm hcap a b r u)
  have HM := Lib.hid hm
  have HCP := Lib.hid hcap
  have hpos : 1 ≤ t.nodes.length := hm.pos
  have hsix : t.nodes.length ≤ 6 := hm.six
  obtain ⟨a, ha, ea⟩ := tmod_nat y0 t.nodes.length hpos
  obtain ⟨b, hb, eb⟩ := tmod_nat y1 t.nodes.length hpos
  obtain ⟨d, hd, ed⟩ := tmod_nat y2 t.nodes.length hpos
  have HG := Lib.hid hm.good
  have n0 : ¬ t.nodes.length = 0 := by omega
  clear hb2 hb2' hty hcap hm hpos
  have e0 : IntKind.i64.wrap (y0 : Int) = (y0 : Int) := IntWalk.i64_in _ (by omega)
  have e1 : IntKind.i64.wrap (y1 : Int) = (y1 : Int) := IntWalk.i64_in _ (by omega)
  have e2 : IntKind.i64.wrap (y2 : Int) = (y2 : Int) := IntWalk.i64_in _ (by omega)
  go_wp2_with fail
  go_quiet (fail)
  clear e0 x0 e1 x1 e2 x2 ea eb ed
  have HAA := Lib.hid (sub_self HG.out ha)
  cases h1 : bel t a b
  case false =>
    have HAB := Lib.hid h1
    have hne : ¬ a = b := fun h => by rw [h, sub_self HG.out hb] at h1; cases h1
    clear h1
    have t1 : (a != b) = true := by simp [hne]
    have t2 : ((a : Int) != (b : Int)) = true := bne_iff_ne.2 (by omega)
    go_wp2_with fail
    refine (HIS.out a a true _ ha ha HAA.out (HS0.out.draws _).ty).mono ?_
    rintro e u1 ⟨rfl, hbn⟩
    have HS1 := Lib.hid ((HS0.out.draws _).up hbn)
    clear hbn
    have k0 := HS1.out.c0
    have k1 := HS1.out.c1
    go_wp2_with fail
    refine (HIS.out a b false _ ha hb HAB.out HS1.out.ty).mono ?_
    rintro e u2 ⟨rfl, hbn⟩
    have HS2 := Lib.hid (HS1.out.up hbn)
    clear hbn k0 k1
    have k0 := HS2.out.c0
    have k1 := HS2.out.c1
    go_wp2_with fail
    refine (HIS.out a b false _ ha hb HAB.out HS2.out.ty).mono ?_
    rintro e u3 ⟨rfl, hbn⟩
    have HS3 := Lib.hid (HS2.out.up hbn)
    clear hbn k0 k1
    have k0 := HS3.out.c0
    have k1 := HS3.out.c1
    go_wp2_with fail
    go_ret
    exact ⟨rfl, HS3.out.be⟩
  case true =>
    have HAB := Lib.hid h1
    clear h1
    by_cases hne : a = b
    · subst hne
      cases h3 : bel t a d
      case false =>
        have HBC := Lib.hid h3
        clear h3
        go_wp2_with fail
        refine (HIS.out a a true _ ha ha HAA.out (HS0.out.draws _).ty).mono ?_
        rintro e u1 ⟨rfl, hbn⟩
        have HS1 := Lib.hid ((HS0.out.draws _).up hbn)
        clear hbn
        have k0 := HS1.out.c0
        have k1 := HS1.out.c1
        go_wp2_with fail
        refine (HIS.out a a true _ ha ha HAA.out HS1.out.ty).mono ?_
        rintro e u2 ⟨rfl, hbn⟩
        have HS2 := Lib.hid (HS1.out.up hbn)
        clear hbn k0 k1
        have k0 := HS2.out.c0
        have k1 := HS2.out.c1
        go_wp2_with fail
        refine (HIS.out a d false _ ha hd HBC.out HS2.out.ty).mono ?_
        rintro e u3 ⟨rfl, hbn⟩
        have HS3 := Lib.hid (HS2.out.up hbn)
        clear hbn k0 k1
        have k0 := HS3.out.c0
        have k1 := HS3.out.c1
        go_wp2_with fail
        go_ret
        exact ⟨rfl, HS3.out.be⟩
      case true =>
        have HBC := Lib.hid h3
        clear h3
        go_wp2_with fail
        refine (HIS.out a a true _ ha ha HAA.out (HS0.out.draws _).ty).mono ?_
        rintro e u1 ⟨rfl, hbn⟩
        have HS1 := Lib.hid ((HS0.out.draws _).up hbn)
        clear hbn
        have k0 := HS1.out.c0
        have k1 := HS1.out.c1
        go_wp2_with fail
        refine (HIS.out a a true _ ha ha HAA.out HS1.out.ty).mono ?_
        rintro e u2 ⟨rfl, hbn⟩
        have HS2 := Lib.hid (HS1.out.up hbn)
        clear hbn k0 k1
        have k0 := HS2.out.c0
        have k1 := HS2.out.c1
        go_wp2_with fail
        refine (HIS.out a d true _ ha hd HBC.out HS2.out.ty).mono ?_
        rintro e u3 ⟨rfl, hbn⟩
        have HS3 := Lib.hid (HS2.out.up hbn)
        clear hbn k0 k1
        have k0 := HS3.out.c0
        have k1 := HS3.out.c1
        go_wp2_with fail
        refine (HIS.out a d true _ ha hd HBC.out HS3.out.ty).mono ?_
        rintro e u4 ⟨rfl, hbn⟩
        have HS4 := Lib.hid (HS3.out.up hbn)
        clear hbn k0 k1
        have k0 := HS4.out.c0
        have k1 := HS4.out.c1
        go_wp2_with fail
        go_ret
        exact ⟨rfl, HS4.out.be⟩
    · have HBA : Hid (bel t b a = false) := Lib.hid (Bool.eq_false_iff.2 fun h => hne (sub_anti HG.out ha hb HAB.out h))
      have t1 : (a != b) = true := by simp [hne]
      have t2 : ((a : Int) != (b : Int)) = true := bne_iff_ne.2 (by omega)
      cases h3 : bel t b d
      case false =>
        have HBC := Lib.hid h3
        clear h3
        go_wp2_with fail
        refine (HIS.out a a true _ ha ha HAA.out (HS0.out.draws _).ty).mono ?_
        rintro e u1 ⟨rfl, hbn⟩
        have HS1 := Lib.hid ((HS0.out.draws _).up hbn)
        clear hbn
        have k0 := HS1.out.c0
        have k1 := HS1.out.c1
        go_wp2_with fail
        refine (HIS.out a b true _ ha hb HAB.out HS1.out.ty).mono ?_
        rintro e u2 ⟨rfl, hbn⟩
        have HS2 := Lib.hid (HS1.out.up hbn)
        clear hbn k0 k1
        have k0 := HS2.out.c0
        have k1 := HS2.out.c1
        go_wp2_with fail
        refine (HIS.out b a false _ hb ha HBA.out HS2.out.ty).mono ?_
        rintro e u3 ⟨rfl, hbn⟩
        have HS3 := Lib.hid (HS2.out.up hbn)
        clear hbn k0 k1
        have k0 := HS3.out.c0
        have k1 := HS3.out.c1
        go_wp2_with fail
        refine (HIS.out a b true _ ha hb HAB.out HS3.out.ty).mono ?_
        rintro e u4 ⟨rfl, hbn⟩
        have HS4 := Lib.hid (HS3.out.up hbn)
        clear hbn k0 k1
        have k0 := HS4.out.c0
        have k1 := HS4.out.c1
        go_wp2_with fail
        refine (HIS.out b d false _ hb hd HBC.out HS4.out.ty).mono ?_
        rintro e u5 ⟨rfl, hbn⟩
        have HS5 := Lib.hid (HS4.out.up hbn)
        clear hbn k0 k1
        have k0 := HS5.out.c0
        have k1 := HS5.out.c1
        go_wp2_with fail
        go_ret
        exact ⟨rfl, HS5.out.be⟩
      case true =>
        have HBC := Lib.hid h3
        have HAC := Lib.hid (sub_trans HG.out h3 a ha HAB.out)
        clear h3
        go_wp2_with fail
        refine (HIS.out a a true _ ha ha HAA.out (HS0.out.draws _).ty).mono ?_
        rintro e u1 ⟨rfl, hbn⟩
        have HS1 := Lib.hid ((HS0.out.draws _).up hbn)
        clear hbn
        have k0 := HS1.out.c0
        have k1 := HS1.out.c1
        go_wp2_with fail
        refine (HIS.out a b true _ ha hb HAB.out HS1.out.ty).mono ?_
        rintro e u2 ⟨rfl, hbn⟩
        have HS2 := Lib.hid (HS1.out.up hbn)
        clear hbn k0 k1
        have k0 := HS2.out.c0
        have k1 := HS2.out.c1
        go_wp2_with fail
        refine (HIS.out b a false _ hb ha HBA.out HS2.out.ty).mono ?_
        rintro e u3 ⟨rfl, hbn⟩
        have HS3 := Lib.hid (HS2.out.up hbn)
        clear hbn k0 k1
        have k0 := HS3.out.c0
        have k1 := HS3.out.c1
        go_wp2_with fail
        refine (HIS.out a b true _ ha hb HAB.out HS3.out.ty).mono ?_
        rintro e u4 ⟨rfl, hbn⟩
        have HS4 := Lib.hid (HS3.out.up hbn)
        clear hbn k0 k1
        have k0 := HS4.out.c0
        have k1 := HS4.out.c1
        go_wp2_with fail
        refine (HIS.out b d true _ hb hd HBC.out HS4.out.ty).mono ?_
        rintro e u5 ⟨rfl, hbn⟩
        have HS5 := Lib.hid (HS4.out.up hbn)
        clear hbn k0 k1
        have k0 := HS5.out.c0
        have k1 := HS5.out.c1
        go_wp2_with fail
        refine (HIS.out a d true _ ha hd HAC.out HS5.out.ty).mono ?_
        rintro e u6 ⟨rfl, hbn⟩
        have HS6 := Lib.hid (HS5.out.up hbn)
        clear hbn k0 k1
        have k0 := HS6.out.c0
        have k1 := HS6.out.c1
        go_wp2_with fail
        go_ret
        exact ⟨rfl, HS6.out.be⟩

end Go.Proofs.Ytgpcaofikmdpjaa

namespace Go.Proofs.Ytgpcaofikmdpjaa.typesOrder
open Go.ChangeShapes Go.WideShapes Go.ChangeAt Go.RowKit Go.Deep

set_option maxRecDepth 100000 in
theorem lifted (os : Os) (started : os.Started) (H : Type) (enc : TypeId × Value → H) :
    ReturnsInHanded {} Try.checked os 8 .any (Rows.typesOrderSpec.pre6 enc Try.prog Try.f8 Rows.typesOrderRow.domain false) (Rows.typesOrderSpec.post enc Try.prog Try.f8 false true false false) := by
  refine returnsInHanded_of_change_sized (C := Try.checked) ownNone started (by kernel_rfl) Try.func8
    (ChangeSpec.witness6 (enc := enc) (C := Try.checked) false ⟨#[], #[.slice none 0 0, .agg #[.int .u8 0, .int .u8 0, .int .u8 0]], []⟩ 8 (by kernel_rfl) (by kernel_rfl) (by kernel_rfl) (by kernel_rfl)) ?_
  intro W base args ds gs before hval0 hW hcnd hwt0 _
  have hwt : (DataW.weightsEach Try.prog (Try.f8.params.toList ++ Rows.typesOrderSpec.plain.varTypes Try.prog) (ds ++ gs)).all (· ≤ reachBytes) = true := hwt0
  have hval : ∀ (j : Nat) t v, Try.f8.params[j]? = some t → args[j]? = some v → Value.okWide Try.prog W .any base t v := hval0
  have hW' := hW
  obtain ⟨p, q, hA0, hV, rfl, hfz, hnd⟩ := hW
  have hA : DataW.TrodAll enc Try.prog W 0 (fun _ => true) true Try.f8.params.toList args.toList ds p := hA0
  rw [Try.params8] at hA hval hwt
  clear hwt0
  obtain ⟨v0, v1, d0, d1, p0, p1, rfl, rfl, rfl, h0, h1⟩ := trodAll_two hA
  obtain ⟨rfl, rfl⟩ := trodVars_none hV
  clear hA0 hval0
  simp only [List.append_nil] at hW'
  have hlt : ∀ x ∈ p0 ++ p1, x.block < W.heap.size := fun x hx => by simpa using hW'.lt x (by simpa using hx)
  have k0 := h0
  obtain ⟨a0, len0, cap0, rfl⟩ := okWide_slice Try.underlying47 (hval 0 47 v0 rfl rfl)
  obtain ⟨f0, g0⟩ := h0
  obtain ⟨A0, xs0, c0, e0, hT0, hG0, hl0, hm0⟩ := open_p g0
  simp [Value.cells] at e0
  obtain ⟨rfl, rfl, rfl⟩ := e0
  have k1 := h1
  obtain ⟨cs1, rfl, _⟩ := okWide_array Try.underlying48 (hval 1 48 v1 rfl rfl)
  obtain ⟨f1, g1⟩ := h1
  obtain ⟨y1, e1, hG1⟩ := three_of g1
  obtain rfl := agg_of (e1)
  refine (lawOrder (awake_any pc) pc xs0 a0 cap0 y1 W (hG0 (Nat.le_trans hl0 hm0) hT0) hG1).mono fun e W' ⟨he, hg⟩ => ?_
  subst he
  exact ⟨_, rfl, _, _, _, [], p0 ++ p1, [], hW', trodAll_cons_mk (shut_bool Try.underlying4 _) trodAll_mk0, trodAll_mk2 (Below.trod laidOut (by kernel_rfl) (of_decide_eq_true (by kernel_rfl)) k0 hg (fun x hx => hlt x (List.mem_append_left _ hx))) (Below.trod laidOut (by kernel_rfl) (of_decide_eq_true (by kernel_rfl)) k1 hg (fun x hx => hlt x (List.mem_append_right _ hx))), rfl, hg.frame _, fun h => by cases h⟩

theorem over : Rows.typesOrderRow.holds Try.pinned (OpenSpec.ofChange Rows.typesOrderSpec) :=
  OpenClaim.holds_of_wide 8 Try.f8 rfl rfl rfl rfl rfl rfl rfl ⟨rfl, rfl, rfl, rfl, rfl⟩ rfl rfl rfl rfl rfl (by kernel_rfl) Try.func8 (by kernel_rfl)
    (of_decide_eq_true (by kernel_rfl)) (by unfold Func.isWrapper; first | (rw [if_pos (by decide +kernel)]; kernel_rfl) | (rw [if_neg (by decide +kernel)]; exact ⟨rfl, rfl⟩))
    (fun os started H enc _ => lifted os started H enc)

theorem proved : Rows.TypesOrderSaid := over

end Go.Proofs.Ytgpcaofikmdpjaa.typesOrder
