/-
  The statement TypesInherit: of every type graph that numbers describe the law answers true, and its arguments read as they did.
-/
import Derived.Test.YtgpcaofikmdpjaaTLawM
import Derived.Test.YtgpcaofikmdpjaaTEx
import Derived.Test.YtgpcaofikmdpjaaTProg
import Derived.Test.YtgpcaofikmdpjaaChecked
import Derived.Test.YtgpcaofikmdpjaaRows
namespace Go.Proofs.Ytgpcaofikmdpjaa
open Go.RowKit

theorem att_prefix {t : Typ} (hg : GoodP t) {b : Nat} : ∀ k, k < t.nodes.length → bel t k b = true → ∃ r, attL t k = attL t b ++ r := by
  refine sub_ind hg fun k hk ih h => ?_
  rcases sub_cases hg hk h with h1 | ⟨p, h1, h2⟩
  · subst h1; exact ⟨[], by simp⟩
  · obtain ⟨r, hr⟩ := ih p h1 h2
    refine ⟨r ++ (t.nodes.getD k default).att, ?_⟩
    rw [attL_step (n := t.nodes.length) (fun i hi => hg i hi) hk, h1, hr, List.append_assoc]
theorem attrs_made {t : Typ} (hp : TC) (hm : MadeT t) {An : Option Addr} {cn : Nat} {Ae : Option Addr} {ce : Nat} (hc : CapT t cn ce) (a : Nat) (u : World) (ha : a < t.nodes.length) (hT : TyC u An Ae t) :
    Calls Try.prog 21 #[tyval An t.nodes.length cn Ae t.edges.length ce, .int .i64 (a : Int)] u fun e w' => AttsR (attL t a) 0 e w' ∧ Below u.heap.size u w' := by
  have := hp.att t An cn Ae ce a u hm.few hc (i64_of ha hm.six) hT
  unfold attR at this
  rw [hm.giv a a ha ha, if_pos rfl] at this
  exact this
theorem fits_made {t : Typ} (hp : TC) (hm : MadeT t) {An : Option Addr} {cn : Nat} {Ae : Option Addr} {ce : Nat} (hc : CapT t cn ce) (k a b : Nat) (r : Bool) (u : World) (hk : k < t.edges.length) (ha : a < t.nodes.length) (hb : b < t.nodes.length) (hr : (bel t a (t.edges.getD k default).fr && bel t b (t.edges.getD k default).to) = r) (hT : TyC u An Ae t) :
    Calls Try.prog 25 #[tyval An t.nodes.length cn Ae t.edges.length ce, .int .i64 (k : Int), .int .i64 (a : Int), .int .i64 (b : Int)] u fun e w' => e = .returned (.bool r) ∧ Below u.heap.size u w' := by
  refine (hp.fit t An cn Ae ce k a b u hm.few hc (i64_of (n := 6) (by have := hm.five; omega) (Nat.le_refl _)) (i64_of ha hm.six) (i64_of hb hm.six) hT).mono ?_
  rintro e w' ⟨rfl, hb'⟩
  refine ⟨ret_bool ?_, hb'⟩
  unfold fitsS inB
  rw [hm.giv a b ha hb, decide_eq_true (show (0 : Int) ≤ k by omega), decide_eq_true (show (k : Int) ≤ (t.edges.length : Int) - 1 by omega), Int.toNat_natCast, hr]
  rfl
/-- what two lists of attributes have to do with each other, and their lengths -/
theorem att_take {t : Typ} (hm : MadeT t) {a b : Nat} (ha : a < t.nodes.length) (h : bel t a b = true) : (attL t b).length ≤ (attL t a).length ∧ (attL t a).take (attL t b).length = attL t b := by
  obtain ⟨r, hr⟩ := att_prefix hm.good a ha h
  rw [hr, List.length_append]
  exact ⟨by omega, by simp⟩
theorem same_self (L : List Att) (A A' : Option Addr) (c c' : Nat) (w : World) (hl : L.length ≤ 1000) (hs : ∀ x ∈ L, AttSm x) (hA : Atts w w.heap.size A L) (hB : Atts w w.heap.size A' L) :
    Calls Try.prog 24 #[.slice A L.length c, .slice A' L.length c'] w fun e w' => e = .returned (.bool true) ∧ Below w.heap.size w w' := by
  refine (sameAttrs_any L L A A' c c' w hl hs hA hB).mono ?_
  rintro e w' ⟨⟨b, rfl, hb⟩, hw⟩
  exact ⟨ret_bool (hb.2 rfl), hw⟩
theorem emod_nat (a n : Nat) (hn : 1 ≤ n) : ∃ x : Nat, x < n ∧ (a : Int) % (n : Int) = (x : Int) := ⟨a % n, Nat.mod_lt _ hn, by simp⟩
theorem att_le {t : Typ} (hm : MadeT t) (a : Nat) (ha : a < t.nodes.length) : (attL t a).length ≤ 630 := attL_len (fun x hx => (hm.few.node x hx).2.1) (by have := hm.six; omega)

set_option maxRecDepth 100000 in
set_option maxHeartbeats 8000000 in
theorem lawInherit (haw : AwC) (hp : TC) (qs : List (Nat × Nat)) (A : Option Addr) (c : Nat) (rs : List (Nat × Nat)) (A2 : Option Addr) (c2 : Nat) (y : Nat × Nat × Nat × Nat × Nat) (w : World) (hQ : Byt qs ∧ Twos w w.heap.size A qs) (hQ2 : Byt rs ∧ Twos w w.heap.size A2 rs) (hy : y.1 < 256 ∧ y.2.1 < 256 ∧ y.2.2.1 < 256 ∧ y.2.2.2.1 < 256 ∧ y.2.2.2.2 < 256) :
    Calls Try.prog 10 #[.slice A qs.length c, .slice A2 rs.length c2, .agg #[.int .u8 (y.1 : Int), .int .u8 (y.2.1 : Int), .int .u8 (y.2.2.1 : Int), .int .u8 (y.2.2.2.1 : Int), .int .u8 (y.2.2.2.2 : Int)]] w fun e w' => e = .returned (.bool true) ∧ Below w.heap.size w w' := by
  obtain ⟨y0, y1, y2, y3, y4⟩ := y
  dsimp only at hy ⊢
  obtain ⟨q0, q1, q2, q3, q4⟩ := hy
  have HAW := Lib.hid haw
  have HP := Lib.hid hp
  have HQ := Lib.hid hQ
  have HQ2 := Lib.hid hQ2
  clear haw hp hQ hQ2
  go_enter Try.func10, Try.ntmps10
  go_wp2_with fail
  refine (HAW.out _).mono ?_
  rintro e w1 ⟨rfl, hb1⟩
  have hb1' := below_one' hb1
  have HB1 := Lib.hid hb1'
  have hz1 : w.heap.size + 1 ≤ w1.heap.size := by have := hb1'.size; simpa using this
  clear hb1 hb1'
  go_wp2_with fail
  refine (made_any qs rs A A2 c c2 _ HQ.out.1 HQ2.out.1 (Reads.up HQ.out.2 (box_below HB1.out)) (Reads.up HQ2.out.2 (box_below HB1.out))).mono ?_
  rintro e w2 ⟨⟨An, cn, Ae, ce, rfl, hcap, hty⟩, hb2⟩
  have hm := madeT_ok qs rs
  generalize madeT qs rs = t at hcap hty hm ⊢
  have hb2' := HB1.out.trans (hb2.mono hz1)
  have x0 := (hb2'.cell (p := ⟨w.heap.size, 0, none⟩) (by simp)).trans (show _ = some (Value.int .u8 (y0 : Int)) from by simp)
  have x1 := (hb2'.cell (p := ⟨w.heap.size, 1, none⟩) (by simp)).trans (show _ = some (Value.int .u8 (y1 : Int)) from by simp)
  have x2 := (hb2'.cell (p := ⟨w.heap.size, 2, none⟩) (by simp)).trans (show _ = some (Value.int .u8 (y2 : Int)) from by simp)
  have x3 := (hb2'.cell (p := ⟨w.heap.size, 3, none⟩) (by simp)).trans (show _ = some (Value.int .u8 (y3 : Int)) from by simp)
  have x4 := (hb2'.cell (p := ⟨w.heap.size, 4, none⟩) (by simp)).trans (show _ = some (Value.int .u8 (y4 : Int)) from by simp)
  have hz2 : w.heap.size < w2.heap.size := by have := hb2.size; omega
  have HS0 := Lib.hid (Sit.start (w := w2) (cn := cn) (ce := ce) (Below.refl _ _) hty)
  have HIS := Lib.hid (fun a b r u => is_call (An := An) (Ae := Ae) HP.out hm hcap a b r u)
  have HM := Lib.hid hm
  have HCP := Lib.hid hcap
  have hpos : 1 ≤ t.nodes.length := hm.pos
  have hsix : t.nodes.length ≤ 6 := hm.six
  have hfive : t.edges.length ≤ 5 := hm.five
  obtain ⟨a, ha, ea⟩ := tmod_nat y0 t.nodes.length hpos
  obtain ⟨b, hb, eb⟩ := tmod_nat y1 t.nodes.length hpos
  obtain ⟨d, hd, ed⟩ := tmod_nat y2 t.nodes.length hpos
  obtain ⟨f, hf, ef⟩ := tmod_nat y3 t.nodes.length hpos
  have HG := Lib.hid hm.good
  have n0 : ¬ t.nodes.length = 0 := by omega
  have HAT := Lib.hid (fun x u => attrs_made (An := An) (Ae := Ae) HP.out hm hcap x u)
  have HFI := Lib.hid (fun k x y r u => fits_made (An := An) (Ae := Ae) HP.out hm hcap k x y r u)
  have HTK := Lib.hid (fun h => att_take (a := a) (b := b) hm ha h)
  have HLA := Lib.hid (att_le hm a ha)
  have HLB := Lib.hid (att_le hm b hb)
  have HSM := Lib.hid (attL_small hm.few (b : Int))
  have HBW := Lib.hid (box_below hb2')
  have HX4 := Lib.hid x4
  clear x4
  clear hb2 hb2' hty hcap hm hpos
  have e0 : IntKind.i64.wrap (y0 : Int) = (y0 : Int) := IntWalk.i64_in _ (by omega)
  have e1 : IntKind.i64.wrap (y1 : Int) = (y1 : Int) := IntWalk.i64_in _ (by omega)
  have e2 : IntKind.i64.wrap (y2 : Int) = (y2 : Int) := IntWalk.i64_in _ (by omega)
  have e3 : IntKind.i64.wrap (y3 : Int) = (y3 : Int) := IntWalk.i64_in _ (by omega)
  have e4 : IntKind.i64.wrap (y4 : Int) = (y4 : Int) := IntWalk.i64_in _ (by omega)
  go_wp2_with fail
  go_quiet (fail)
  clear e0 x0 e1 x1 e2 x2 e3 x3 ea eb ed ef
  cases h1 : bel t a b
  case false =>
    have HAB := Lib.hid h1
    clear h1
    go_wp2_with fail
    refine (HIS.out a b false _ ha hb HAB.out (HS0.out.draws _).ty).mono ?_
    rintro e u1 ⟨rfl, hbn⟩
    have HS1 := Lib.hid ((HS0.out.draws _).up hbn)
    clear hbn
    have k0 := HS1.out.c0
    have k1 := HS1.out.c1
    by_cases hm0 : t.edges.length = 0
    · have t1 : ((t.edges.length : Int) == 0) = true := by rw [hm0]; rfl
      have HM0 := Lib.hid hm0
      clear hm0
      go_wp2_with fail
      go_ret
      exact ⟨rfl, HBW.out.trans (HS1.out.be.mono (Nat.le_of_lt hz2))⟩
    · have t1 : ((t.edges.length : Int) == 0) = false := beq_eq_false_iff_ne.2 (by omega)
      obtain ⟨k, hk, ek⟩ := emod_nat y4 t.edges.length (by omega)
      have x4 := (HS1.out.be.cell (p := ⟨w.heap.size, 4, none⟩) hz2).trans HX4.out
      cases h2 : (bel t b (t.edges.getD k default).fr && bel t f (t.edges.getD k default).to)
      case false =>
        have HF := Lib.hid h2
        clear h2
        go_wp2_with fail
        refine (HFI.out k b f false _ hk hb hf HF.out HS1.out.ty).mono ?_
        rintro e u2 ⟨rfl, hbn⟩
        have HS2 := Lib.hid (HS1.out.up hbn)
        clear hbn k0 k1
        have k0 := HS2.out.c0
        have k1 := HS2.out.c1
        go_wp2_with fail
        go_ret
        exact ⟨rfl, HBW.out.trans (HS2.out.be.mono (Nat.le_of_lt hz2))⟩
      case true =>
        have HF := Lib.hid h2
        clear h2
        go_wp2_with fail
        refine (HFI.out k b f true _ hk hb hf HF.out HS1.out.ty).mono ?_
        rintro e u2 ⟨rfl, hbn⟩
        have HS2 := Lib.hid (HS1.out.up hbn)
        clear hbn k0 k1
        have k0 := HS2.out.c0
        have k1 := HS2.out.c1
        go_wp2_with fail
        refine (HIS.out a b false _ ha hb HAB.out HS2.out.ty).mono ?_
        rintro e u3 ⟨rfl, hbn⟩
        have HS3 := Lib.hid (HS2.out.up hbn)
        clear hbn k0 k1
        have k0 := HS3.out.c0
        have k1 := HS3.out.c1
        go_wp2_with fail
        go_ret
        exact ⟨rfl, HBW.out.trans (HS3.out.be.mono (Nat.le_of_lt hz2))⟩
  case true =>
    have HAB := Lib.hid h1
    clear h1
    go_wp2_with fail
    refine (HIS.out a b true _ ha hb HAB.out (HS0.out.draws _).ty).mono ?_
    rintro e u1 ⟨rfl, hbn⟩
    have HS1 := Lib.hid ((HS0.out.draws _).up hbn)
    clear hbn
    have k0 := HS1.out.c0
    have k1 := HS1.out.c1
    obtain ⟨hle, htk⟩ := HTK.out HAB.out
    have HTA := Lib.hid htk
    clear htk
    have HATA := Lib.hid (fun u hu => HAT.out a u ha hu)
    have HATB := Lib.hid (fun u hu => HAT.out b u hb hu)
    clear HTK HAT
    generalize attL t a = La at HATA HTA HLA hle
    generalize attL t b = Lb at HATB HTA HLB hle HSM
    go_wp2_with fail
    refine (HATA.out _ HS1.out.ty).mono ?_
    rintro e u2 ⟨⟨P1, c1, rfl, hr1, hc1⟩, hbn⟩
    have HP1 := Lib.hid hr1
    clear hr1
    have HS2 := Lib.hid (HS1.out.up hbn)
    clear hbn k0 k1
    have k0 := HS2.out.c0
    have k1 := HS2.out.c1
    go_wp2_with fail
    refine (HATB.out _ HS2.out.ty).mono ?_
    rintro e u3 ⟨⟨P2, c2, rfl, hr2, hc2⟩, hbn⟩
    have HP2 := Lib.hid hr2
    have HP1 := Lib.hid (HP1.out.up hbn)
    clear hr2
    have HS3 := Lib.hid (HS2.out.up hbn)
    clear hbn k0 k1
    have k0 := HS3.out.c0
    have k1 := HS3.out.c1
    have l1 : decide (La.length < Lb.length) = false := decide_eq_false (by omega)
    have l2 : (Lb.length : Int) ≤ (c1 : Int) := by omega
    have l3 : ((Lb.length : Int)).toNat = Lb.length := by omega
    have l4 : (0 : Int) ≤ (Lb.length : Int) := by omega
    have l5 : Lb.length ≤ c1 := by omega
    go_wp2_with fail
    refine (same_self Lb P1 P2 c1 c2 _ (by have := HLB.out; omega) HSM.out (by have h := HP1.out.take Lb.length; rw [HTA.out] at h; exact h) HP2.out).mono ?_
    rintro e u4 ⟨rfl, hbn⟩
    have HS4 := Lib.hid (HS3.out.up hbn)
    clear hbn k0 k1
    have k0 := HS4.out.c0
    have k1 := HS4.out.c1
    clear l1 l2 l3 l4 l5
    by_cases hm0 : t.edges.length = 0
    · have t1 : ((t.edges.length : Int) == 0) = true := by rw [hm0]; rfl
      have HM0 := Lib.hid hm0
      clear hm0
      go_wp2_with fail
      go_ret
      exact ⟨rfl, HBW.out.trans (HS4.out.be.mono (Nat.le_of_lt hz2))⟩
    · have t1 : ((t.edges.length : Int) == 0) = false := beq_eq_false_iff_ne.2 (by omega)
      obtain ⟨k, hk, ek⟩ := emod_nat y4 t.edges.length (by omega)
      have x4 := (HS4.out.be.cell (p := ⟨w.heap.size, 4, none⟩) hz2).trans HX4.out
      cases h2 : (bel t b (t.edges.getD k default).fr && bel t f (t.edges.getD k default).to)
      case false =>
        have HF := Lib.hid h2
        clear h2
        go_wp2_with fail
        refine (HFI.out k b f false _ hk hb hf HF.out HS4.out.ty).mono ?_
        rintro e u5 ⟨rfl, hbn⟩
        have HS5 := Lib.hid (HS4.out.up hbn)
        clear hbn k0 k1
        have k0 := HS5.out.c0
        have k1 := HS5.out.c1
        go_wp2_with fail
        go_ret
        exact ⟨rfl, HBW.out.trans (HS5.out.be.mono (Nat.le_of_lt hz2))⟩
      case true =>
        have HF := Lib.hid h2
        clear h2
        cases h3 : bel t d f
        case false =>
          have HDF := Lib.hid h3
          clear h3
          go_wp2_with fail
          refine (HFI.out k b f true _ hk hb hf HF.out HS4.out.ty).mono ?_
          rintro e u5 ⟨rfl, hbn⟩
          have HS5 := Lib.hid (HS4.out.up hbn)
          clear hbn k0 k1
          have k0 := HS5.out.c0
          have k1 := HS5.out.c1
          go_wp2_with fail
          refine (HIS.out a b true _ ha hb HAB.out HS5.out.ty).mono ?_
          rintro e u6 ⟨rfl, hbn⟩
          have HS6 := Lib.hid (HS5.out.up hbn)
          clear hbn k0 k1
          have k0 := HS6.out.c0
          have k1 := HS6.out.c1
          go_wp2_with fail
          refine (HIS.out d f false _ hd hf HDF.out HS6.out.ty).mono ?_
          rintro e u7 ⟨rfl, hbn⟩
          have HS7 := Lib.hid (HS6.out.up hbn)
          clear hbn k0 k1
          have k0 := HS7.out.c0
          have k1 := HS7.out.c1
          go_wp2_with fail
          go_ret
          exact ⟨rfl, HBW.out.trans (HS7.out.be.mono (Nat.le_of_lt hz2))⟩
        case true =>
          have HDF := Lib.hid h3
          clear h3
          have HF2 : Hid ((bel t a (t.edges.getD k default).fr && bel t d (t.edges.getD k default).to) = true) := Lib.hid (by
            obtain ⟨z1, z2⟩ := Bool.and_eq_true_iff.1 HF.out
            rw [sub_trans HG.out z1 a ha HAB.out, sub_trans HG.out z2 d hd HDF.out]; rfl)
          go_wp2_with fail
          refine (HFI.out k b f true _ hk hb hf HF.out HS4.out.ty).mono ?_
          rintro e u5 ⟨rfl, hbn⟩
          have HS5 := Lib.hid (HS4.out.up hbn)
          clear hbn k0 k1
          have k0 := HS5.out.c0
          have k1 := HS5.out.c1
          go_wp2_with fail
          refine (HIS.out a b true _ ha hb HAB.out HS5.out.ty).mono ?_
          rintro e u6 ⟨rfl, hbn⟩
          have HS6 := Lib.hid (HS5.out.up hbn)
          clear hbn k0 k1
          have k0 := HS6.out.c0
          have k1 := HS6.out.c1
          go_wp2_with fail
          refine (HIS.out d f true _ hd hf HDF.out HS6.out.ty).mono ?_
          rintro e u7 ⟨rfl, hbn⟩
          have HS7 := Lib.hid (HS6.out.up hbn)
          clear hbn k0 k1
          have k0 := HS7.out.c0
          have k1 := HS7.out.c1
          go_wp2_with fail
          refine (HFI.out k a d true _ hk ha hd HF2.out HS7.out.ty).mono ?_
          rintro e u8 ⟨rfl, hbn⟩
          have HS8 := Lib.hid (HS7.out.up hbn)
          clear hbn k0 k1
          have k0 := HS8.out.c0
          have k1 := HS8.out.c1
          go_wp2_with fail
          go_ret
          exact ⟨rfl, HBW.out.trans (HS8.out.be.mono (Nat.le_of_lt hz2))⟩

end Go.Proofs.Ytgpcaofikmdpjaa

namespace Go.Proofs.Ytgpcaofikmdpjaa.typesInherit
open Go.ChangeShapes Go.WideShapes Go.ChangeAt Go.RowKit Go.Deep

set_option maxRecDepth 100000 in
theorem lifted (os : Os) (started : os.Started) (H : Type) (enc : TypeId × Value → H) :
    ReturnsInHanded {} Try.checked os 10 .any (Rows.typesInheritSpec.pre6 enc Try.prog Try.f10 Rows.typesInheritRow.domain false) (Rows.typesInheritSpec.post enc Try.prog Try.f10 false true false false) := by
  refine returnsInHanded_of_change_sized (C := Try.checked) ownNone started (by kernel_rfl) Try.func10
    (ChangeSpec.witness6 (enc := enc) (C := Try.checked) false ⟨#[], #[.slice none 0 0, .slice none 0 0, .agg #[.int .u8 0, .int .u8 0, .int .u8 0, .int .u8 0, .int .u8 0]], []⟩ 8 (by kernel_rfl) (by kernel_rfl) (by kernel_rfl) (by kernel_rfl)) ?_
  intro W base args ds gs before hval0 hW hcnd hwt0 _
  have hwt : (DataW.weightsEach Try.prog (Try.f10.params.toList ++ Rows.typesInheritSpec.plain.varTypes Try.prog) (ds ++ gs)).all (· ≤ reachBytes) = true := hwt0
  have hval : ∀ (j : Nat) t v, Try.f10.params[j]? = some t → args[j]? = some v → Value.okWide Try.prog W .any base t v := hval0
  have hW' := hW
  obtain ⟨p, q, hA0, hV, rfl, hfz, hnd⟩ := hW
  have hA : DataW.TrodAll enc Try.prog W 0 (fun _ => true) true Try.f10.params.toList args.toList ds p := hA0
  rw [Try.params10] at hA hval hwt
  clear hwt0
  obtain ⟨v0, v1, v2, d0, d1, d2, p0, p1, p2, rfl, rfl, rfl, h0, h1, h2⟩ := trodAll_three hA
  obtain ⟨rfl, rfl⟩ := trodVars_none hV
  clear hA0 hval0
  simp only [List.append_nil] at hW'
  have hlt : ∀ x ∈ p0 ++ p1 ++ p2, x.block < W.heap.size := fun x hx => by simpa using hW'.lt x (by simpa using hx)
  have k0 := h0
  obtain ⟨a0, len0, cap0, rfl⟩ := okWide_slice Try.underlying47 (hval 0 47 v0 rfl rfl)
  obtain ⟨f0, g0⟩ := h0
  obtain ⟨A0, xs0, c0, e0, hT0, hG0, hl0, hm0⟩ := open_p g0
  simp [Value.cells] at e0
  obtain ⟨rfl, rfl, rfl⟩ := e0
  have k1 := h1
  obtain ⟨a1, len1, cap1, rfl⟩ := okWide_slice Try.underlying47 (hval 1 47 v1 rfl rfl)
  obtain ⟨f1, g1⟩ := h1
  obtain ⟨A1, xs1, c1, e1, hT1, hG1, hl1, hm1⟩ := open_p g1
  simp [Value.cells] at e1
  obtain ⟨rfl, rfl, rfl⟩ := e1
  have k2 := h2
  obtain ⟨cs2, rfl, _⟩ := okWide_array Try.underlying51 (hval 2 51 v2 rfl rfl)
  obtain ⟨f2, g2⟩ := h2
  obtain ⟨y2, e2, hG2⟩ := five_of g2
  obtain rfl := agg_of (e2)
  refine (lawInherit (awake_any pc) pc xs0 a0 cap0 xs1 a1 cap1 y2 W (hG0 (Nat.le_trans hl0 hm0) hT0) (hG1 (Nat.le_trans hl1 hm1) hT1) hG2).mono fun e W' ⟨he, hg⟩ => ?_
  subst he
  exact ⟨_, rfl, _, _, _, [], p0 ++ p1 ++ p2, [], hW', trodAll_cons_mk (shut_bool Try.underlying4 _) trodAll_mk0, (by rw [List.append_assoc p0 p1 p2]; exact trodAll_mk3 (Below.trod laidOut (by kernel_rfl) (of_decide_eq_true (by kernel_rfl)) k0 hg (fun x hx => hlt x (List.mem_append_left _ (List.mem_append_left _ hx)))) (Below.trod laidOut (by kernel_rfl) (of_decide_eq_true (by kernel_rfl)) k1 hg (fun x hx => hlt x (List.mem_append_left _ (List.mem_append_right _ hx)))) (Below.trod laidOut (by kernel_rfl) (of_decide_eq_true (by kernel_rfl)) k2 hg (fun x hx => hlt x (List.mem_append_right _ hx)))), rfl, hg.frame _, fun h => by cases h⟩

theorem over : Rows.typesInheritRow.holds Try.pinned (OpenSpec.ofChange Rows.typesInheritSpec) :=
  OpenClaim.holds_of_wide 10 Try.f10 rfl rfl rfl rfl rfl rfl rfl ⟨rfl, rfl, rfl, rfl, rfl⟩ rfl rfl rfl rfl rfl (by kernel_rfl) Try.func10 (by kernel_rfl)
    (of_decide_eq_true (by kernel_rfl)) (by unfold Func.isWrapper; first | (rw [if_pos (by decide +kernel)]; kernel_rfl) | (rw [if_neg (by decide +kernel)]; exact ⟨rfl, rfl⟩))
    (fun os started H enc _ => lifted os started H enc)

theorem proved : Rows.TypesInheritSaid := over

end Go.Proofs.Ytgpcaofikmdpjaa.typesInherit
