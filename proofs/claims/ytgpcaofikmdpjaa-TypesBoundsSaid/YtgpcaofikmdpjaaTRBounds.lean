/-
  The statement TypesBounds: of every type graph that numbers describe the law answers true, and its arguments read as they did.
-/
import Derived.Test.YtgpcaofikmdpjaaTLawM
import Derived.Deep.DeepCutAuto
import Derived.Test.YtgpcaofikmdpjaaTEx
import Derived.Test.YtgpcaofikmdpjaaTProg
import Derived.Test.YtgpcaofikmdpjaaChecked
import Derived.Test.YtgpcaofikmdpjaaRows
namespace Go.Proofs.Ytgpcaofikmdpjaa
open Go.RowKit

theorem meet_call {t : Typ} (hp : TC) (hm : MadeT t) {An : Option Addr} {cn : Nat} {Ae : Option Addr} {ce : Nat} (hc : CapT t cn ce) (a b m er : Nat) (u : World) (ha : a < t.nodes.length) (hb : b < t.nodes.length) (hr : meetS t a b = ((m : Int), er)) (hT : TyC u An Ae t) :
    Calls Try.prog 27 #[tyval An t.nodes.length cn Ae t.edges.length ce, .int .i64 (a : Int), .int .i64 (b : Int)] u fun e w' => e = .returned (.tuple #[.int .i64 (m : Int), .int .i64 (er : Int)]) ∧ Below u.heap.size u w' := by
  have := hp.meet t An cn Ae ce a b u hm.few hc (i64_of ha hm.six) (i64_of hb hm.six) hT
  rw [hr] at this
  exact this
theorem join_call {t : Typ} (hp : TC) (hm : MadeT t) {An : Option Addr} {cn : Nat} {Ae : Option Addr} {ce : Nat} (hc : CapT t cn ce) (a b m er : Nat) (u : World) (ha : a < t.nodes.length) (hb : b < t.nodes.length) (hr : joinS t a b = ((m : Int), er)) (hT : TyC u An Ae t) :
    Calls Try.prog 29 #[tyval An t.nodes.length cn Ae t.edges.length ce, .int .i64 (a : Int), .int .i64 (b : Int)] u fun e w' => e = .returned (.tuple #[.int .i64 (m : Int), .int .i64 (er : Int)]) ∧ Below u.heap.size u w' := by
  have := hp.join t An cn Ae ce a b u hm.few hc (i64_of ha hm.six) (i64_of hb hm.six) hT
  rw [hr] at this
  exact this
theorem meet_spec {t : Typ} (hm : MadeT t) {a b d : Nat} (ha : a < t.nodes.length) (hb : b < t.nodes.length) (hd : d < t.nodes.length) : ∃ m er : Nat, meetS t a b = ((m : Int), er) ∧ m < t.nodes.length ∧
    ((er = 0 ∧ bel t m a = true ∧ bel t m b = true ∧ bel t d m = (bel t d a && bel t d b)) ∨ (er = 13 ∧ (bel t d a && bel t d b) = false)) := by
  have hg := hm.good
  have hpos := hm.pos
  unfold meetS
  rw [hm.giv a b ha hb, if_neg (fun h => h rfl)]
  by_cases h1 : bel t a b = true
  · refine ⟨a, 0, by rw [if_pos h1], ha, .inl ⟨rfl, sub_self hg ha, h1, ?_⟩⟩
    cases h : bel t d a with
    | false => rfl
    | true => rw [sub_trans hg h1 d hd h]; rfl
  · rw [if_neg h1]
    by_cases h2 : bel t b a = true
    · refine ⟨b, 0, by rw [if_pos h2], hb, .inl ⟨rfl, h2, sub_self hg hb, ?_⟩⟩
      cases h : bel t d b with
      | false => rw [Bool.and_false]
      | true => rw [sub_trans hg h2 d hd h]; rfl
    · refine ⟨0, 13, by rw [if_neg h2]; rfl, hpos, .inr ⟨rfl, ?_⟩⟩
      cases ha1 : bel t d a with
      | false => rfl
      | true =>
        cases hb1 : bel t d b with
        | false => rfl
        | true =>
          rcases sub_chain hg d hd ha1 hb1 with h | h
          · exact absurd h h1
          · exact absurd h h2
theorem join_spec {t : Typ} (hm : MadeT t) {a b d : Nat} (ha : a < t.nodes.length) (hb : b < t.nodes.length) : ∃ j er : Nat, joinS t a b = ((j : Int), er) ∧ j < t.nodes.length ∧
    ((er = 0 ∧ bel t a j = true ∧ bel t b j = true ∧ bel t j d = (bel t a d && bel t b d)) ∨ (er = 10 ∧ (bel t a d && bel t b d) = false)) := by
  have hg := hm.good
  have hpos := hm.pos
  unfold joinS
  rw [hm.giv a b ha hb, if_neg (fun h => h rfl)]
  rcases joinU_spec hg (b := b) ((a : Int) + 1).toNat a (by omega) (by omega) (Nat.le_refl _) with ⟨j, h1, h2, h3, h4, h5⟩ | ⟨h1, h2⟩
  · refine ⟨j, 0, h1, by omega, .inl ⟨rfl, h3, h4, ?_⟩⟩
    have hj : j < t.nodes.length := by omega
    cases h : bel t j d with
    | true => rw [sub_trans hg h a ha h3, sub_trans hg h b hb h4]; rfl
    | false =>
      cases ha1 : bel t a d with
      | false => rfl
      | true =>
        cases hb1 : bel t b d with
        | false => rfl
        | true => rw [h5 d ha1 hb1] at h; cases h
  · refine ⟨0, 10, by rw [h1]; rfl, hpos, .inr ⟨rfl, ?_⟩⟩
    cases ha1 : bel t a d with
    | false => rfl
    | true =>
      cases hb1 : bel t b d with
      | false => rfl
      | true => exact (h2 d ha1 hb1).elim

set_option maxRecDepth 100000 in
set_option maxHeartbeats 8000000 in
theorem lawBounds (haw : AwC) (hp : TC) (qs : List (Nat × Nat)) (A : Option Addr) (c : Nat) (y : Nat × Nat × Nat) (w : World) (hQ : Byt qs ∧ Twos w w.heap.size A qs) (hy : y.1 < 256 ∧ y.2.1 < 256 ∧ y.2.2 < 256) :
    Calls Try.prog 9 #[.slice A qs.length c, .agg #[.int .u8 (y.1 : Int), .int .u8 (y.2.1 : Int), .int .u8 (y.2.2 : Int)]] w fun e w' => e = .returned (.bool true) ∧ Below w.heap.size w w' := by
  obtain ⟨y0, y1, y2⟩ := y
  dsimp only at hy ⊢
  obtain ⟨q0, q1, q2⟩ := hy
  have HAW := Lib.hid haw
  have HP := Lib.hid hp
  have HQ := Lib.hid hQ
  clear haw hp hQ
  go_enter Try.func9, Try.ntmps9
  go_wp2_with fail
  refine (HAW.out _).mono ?_
  rintro e w1 ⟨rfl, hb1⟩
  have hb1' := below_one' hb1
  have HB1 := Lib.hid hb1'
  have hz1 : w.heap.size + 1 ≤ w1.heap.size := by have := hb1'.size; simpa using this
  clear hb1 hb1'
  go_wp2_with fail
  refine (made_nil qs A c _ HQ.out.1 (Reads.up HQ.out.2 (box_below HB1.out))).mono ?_
  rintro e w2 ⟨⟨An, cn, Ae, ce, rfl, hcap, hty⟩, hb2⟩
  have hm := madeT_ok qs []
  generalize madeT qs [] = t at hcap hty hm ⊢
  have hb2' := HB1.out.trans (hb2.mono hz1)
  have x0 := (hb2'.cell (p := ⟨w.heap.size, 0, none⟩) (by simp)).trans (show _ = some (Value.int .u8 (y0 : Int)) from by simp)
  have x1 := (hb2'.cell (p := ⟨w.heap.size, 1, none⟩) (by simp)).trans (show _ = some (Value.int .u8 (y1 : Int)) from by simp)
  have x2 := (hb2'.cell (p := ⟨w.heap.size, 2, none⟩) (by simp)).trans (show _ = some (Value.int .u8 (y2 : Int)) from by simp)
  have hz2 : w.heap.size < w2.heap.size := by have := hb2.size; omega
  have HS0 := Lib.hid (Sit.start (cn := cn) (ce := ce) (box_below hb2') hty)
  have HIS := Lib.hid (fun a b r u => is_call (An := An) (Ae := Ae) HP.out hm hcap a b r u)
  have HM := Lib.hid hm
  have HCP := Lib.hid hcap
  have hpos : 1 ≤ t.nodes.length := hm.pos
  have hsix : t.nodes.length ≤ 6 := hm.six
  obtain ⟨a, ha, ea⟩ := tmod_nat y0 t.nodes.length hpos
  obtain ⟨b, hb, eb⟩ := tmod_nat y1 t.nodes.length hpos
  obtain ⟨d, hd, ed⟩ := tmod_nat y2 t.nodes.length hpos
  have HG := Lib.hid hm.good
  have n0 : ¬ t.nodes.length = 0 := by omega
  obtain ⟨m, er, hmt, hml, hms⟩ := meet_spec hm ha hb hd
  obtain ⟨j, fr, hjt, hjl, hjs⟩ := join_spec (d := d) hm ha hb
  obtain ⟨bw, hbw⟩ : ∃ bw, bw = (bel t d a && bel t d b) := ⟨_, rfl⟩
  obtain ⟨bv, hbv⟩ : ∃ bv, bv = (bel t a d && bel t b d) := ⟨_, rfl⟩
  rw [← hbw] at hms
  rw [← hbv] at hjs
  have HMT := Lib.hid (fun u => meet_call (An := An) (Ae := Ae) HP.out hm hcap a b m er u ha hb hmt)
  have HJT := Lib.hid (fun u => join_call (An := An) (Ae := Ae) HP.out hm hcap a b j fr u ha hb hjt)
  have HMS := Lib.hid hms
  have HJS := Lib.hid hjs
  have HBW := Lib.hid hbw
  have HBV := Lib.hid hbv
  clear hmt hms hjt hjs hbw hbv
  clear hb2 hb2' hty hcap hm hpos
  have e0 : IntKind.i64.wrap (y0 : Int) = (y0 : Int) := IntWalk.i64_in _ (by omega)
  have e1 : IntKind.i64.wrap (y1 : Int) = (y1 : Int) := IntWalk.i64_in _ (by omega)
  have e2 : IntKind.i64.wrap (y2 : Int) = (y2 : Int) := IntWalk.i64_in _ (by omega)
  go_wp2_with fail
  go_quiet (fail)
  clear e0 x0 e1 x1 e2 x2 ea eb ed
  go_wp2_with fail
  refine (HMT.out _ (HS0.out.draws _).ty).mono ?_
  rintro e u1 ⟨rfl, hbn⟩
  have HS1 := Lib.hid ((HS0.out.draws _).up hbn)
  clear hbn
  have k0 := HS1.out.c0
  have k1 := HS1.out.c1
  go_upto_region 7 with (fail)
  go_cut [12] (fun v wx => v = .bool bw ∧ Sit w w2.heap.size An cn Ae ce t wx)
  case first =>
    cases h1 : bel t d a
    case false =>
      have H1 := Lib.hid h1
      clear h1
      go_wp2_with fail
      refine (HIS.out d a false _ hd ha H1.out HS1.out.ty).mono ?_
      rintro e u2 ⟨rfl, hbn⟩
      have HS2 := Lib.hid (HS1.out.up hbn)
      clear hbn k0 k1
      have k0 := HS2.out.c0
      have k1 := HS2.out.c1
      go_wp2_with fail
      go_meet
      exact ⟨by rw [HBW.out, H1.out]; rfl, HS2.out⟩
    case true =>
      have H1 := Lib.hid h1
      clear h1
      cases h2 : bel t d b
      case false =>
        have H2 := Lib.hid h2
        clear h2
        go_wp2_with fail
        refine (HIS.out d a true _ hd ha H1.out HS1.out.ty).mono ?_
        rintro e u2 ⟨rfl, hbn⟩
        have HS2 := Lib.hid (HS1.out.up hbn)
        clear hbn k0 k1
        have k0 := HS2.out.c0
        have k1 := HS2.out.c1
        go_wp2_with fail
        refine (HIS.out d b false _ hd hb H2.out HS2.out.ty).mono ?_
        rintro e u3 ⟨rfl, hbn⟩
        have HS3 := Lib.hid (HS2.out.up hbn)
        clear hbn k0 k1
        have k0 := HS3.out.c0
        have k1 := HS3.out.c1
        go_wp2_with fail
        go_meet
        exact ⟨by rw [HBW.out, H1.out, H2.out]; rfl, HS3.out⟩
      case true =>
        have H2 := Lib.hid h2
        clear h2
        go_wp2_with fail
        refine (HIS.out d a true _ hd ha H1.out HS1.out.ty).mono ?_
        rintro e u2 ⟨rfl, hbn⟩
        have HS2 := Lib.hid (HS1.out.up hbn)
        clear hbn k0 k1
        have k0 := HS2.out.c0
        have k1 := HS2.out.c1
        go_wp2_with fail
        refine (HIS.out d b true _ hd hb H2.out HS2.out.ty).mono ?_
        rintro e u3 ⟨rfl, hbn⟩
        have HS3 := Lib.hid (HS2.out.up hbn)
        clear hbn k0 k1
        have k0 := HS3.out.c0
        have k1 := HS3.out.c1
        go_wp2_with fail
        go_meet
        exact ⟨by rw [HBW.out, H1.out, H2.out]; rfl, HS3.out⟩
  case rest =>
    obtain ⟨rfl, hs⟩ := hcut
    clear k0 k1
    have HS2 := Lib.hid hs
    clear hs
    have k0 := HS2.out.c0
    have k1 := HS2.out.c1
    go_upto_region 8 with (fail)
    go_cut [78] (fun v wx => v = .bool false ∧ Sit w w2.heap.size An cn Ae ce t wx)
    case first =>
      rcases HMS.out with ⟨z0, z1, z2, z3⟩ | ⟨z0, _⟩
      · subst z0
        have H1 := Lib.hid z1
        have H2 := Lib.hid z2
        have H3 := Lib.hid z3
        have hm := hml
        clear z1 z2 z3
        cases bw
        case false =>
          go_wp2_with fail
          refine (HIS.out m a true _ hm ha H1.out HS2.out.ty).mono ?_
          rintro e u3 ⟨rfl, hbn⟩
          have HS3 := Lib.hid (HS2.out.up hbn)
          clear hbn k0 k1
          have k0 := HS3.out.c0
          have k1 := HS3.out.c1
          go_wp2_with fail
          refine (HIS.out m b true _ hm hb H2.out HS3.out.ty).mono ?_
          rintro e u4 ⟨rfl, hbn⟩
          have HS4 := Lib.hid (HS3.out.up hbn)
          clear hbn k0 k1
          have k0 := HS4.out.c0
          have k1 := HS4.out.c1
          go_wp2_with fail
          refine (HIS.out d m false _ hd hm H3.out HS4.out.ty).mono ?_
          rintro e u5 ⟨rfl, hbn⟩
          have HS5 := Lib.hid (HS4.out.up hbn)
          clear hbn k0 k1
          have k0 := HS5.out.c0
          have k1 := HS5.out.c1
          go_wp2_with fail
          go_meet
          exact ⟨rfl, HS5.out⟩
        case true =>
          go_wp2_with fail
          refine (HIS.out m a true _ hm ha H1.out HS2.out.ty).mono ?_
          rintro e u3 ⟨rfl, hbn⟩
          have HS3 := Lib.hid (HS2.out.up hbn)
          clear hbn k0 k1
          have k0 := HS3.out.c0
          have k1 := HS3.out.c1
          go_wp2_with fail
          refine (HIS.out m b true _ hm hb H2.out HS3.out.ty).mono ?_
          rintro e u4 ⟨rfl, hbn⟩
          have HS4 := Lib.hid (HS3.out.up hbn)
          clear hbn k0 k1
          have k0 := HS4.out.c0
          have k1 := HS4.out.c1
          go_wp2_with fail
          refine (HIS.out d m true _ hd hm H3.out HS4.out.ty).mono ?_
          rintro e u5 ⟨rfl, hbn⟩
          have HS5 := Lib.hid (HS4.out.up hbn)
          clear hbn k0 k1
          have k0 := HS5.out.c0
          have k1 := HS5.out.c1
          go_wp2_with fail
          go_meet
          exact ⟨rfl, HS5.out⟩
      · have t1 : ((er : Int) == 0) = false := beq_eq_false_iff_ne.2 (by omega)
        clear z0
        go_wp2_with fail
        go_meet
        exact ⟨rfl, HS2.out⟩
    case rest =>
      obtain ⟨rfl, hs⟩ := hcut
      clear k0 k1
      have HS3 := Lib.hid hs
      clear hs
      have k0 := HS3.out.c0
      have k1 := HS3.out.c1
      go_upto_region 10 with (fail)
      go_cut [87] (fun v wx => v = .bool false ∧ Sit w w2.heap.size An cn Ae ce t wx)
      case first =>
        rcases HMS.out with ⟨z0, _, _, _⟩ | ⟨z0, z1⟩
        · subst z0
          go_wp2_with fail
          go_meet
          exact ⟨rfl, HS3.out⟩
        · have t1 : ((er : Int) != 0) = true := bne_iff_ne.2 (by omega)
          have t2 : ((er : Int) != 13) = false := by rw [z0]; rfl
          have HBF := Lib.hid z1
          clear z0 z1
          go_wp2_with fail
          go_meet
          exact ⟨by rw [HBF.out], HS3.out⟩
      case rest =>
        obtain ⟨rfl, hs⟩ := hcut
        clear k0 k1
        have HS4 := Lib.hid hs
        clear hs
        have k0 := HS4.out.c0
        have k1 := HS4.out.c1
        go_wp2_with fail
        refine (HJT.out _ HS4.out.ty).mono ?_
        rintro e u5 ⟨rfl, hbn⟩
        have HS5 := Lib.hid (HS4.out.up hbn)
        clear hbn k0 k1
        have k0 := HS5.out.c0
        have k1 := HS5.out.c1
        go_upto_region 13 with (fail)
        go_cut [15] (fun v wx => v = .bool bv ∧ Sit w w2.heap.size An cn Ae ce t wx)
        case first =>
          cases h1 : bel t a d
          case false =>
            have H1 := Lib.hid h1
            clear h1
            go_wp2_with fail
            refine (HIS.out a d false _ ha hd H1.out HS5.out.ty).mono ?_
            rintro e u6 ⟨rfl, hbn⟩
            have HS6 := Lib.hid (HS5.out.up hbn)
            clear hbn k0 k1
            have k0 := HS6.out.c0
            have k1 := HS6.out.c1
            go_wp2_with fail
            go_meet
            exact ⟨by rw [HBV.out, H1.out]; rfl, HS6.out⟩
          case true =>
            have H1 := Lib.hid h1
            clear h1
            cases h2 : bel t b d
            case false =>
              have H2 := Lib.hid h2
              clear h2
              go_wp2_with fail
              refine (HIS.out a d true _ ha hd H1.out HS5.out.ty).mono ?_
              rintro e u6 ⟨rfl, hbn⟩
              have HS6 := Lib.hid (HS5.out.up hbn)
              clear hbn k0 k1
              have k0 := HS6.out.c0
              have k1 := HS6.out.c1
              go_wp2_with fail
              refine (HIS.out b d false _ hb hd H2.out HS6.out.ty).mono ?_
              rintro e u7 ⟨rfl, hbn⟩
              have HS7 := Lib.hid (HS6.out.up hbn)
              clear hbn k0 k1
              have k0 := HS7.out.c0
              have k1 := HS7.out.c1
              go_wp2_with fail
              go_meet
              exact ⟨by rw [HBV.out, H1.out, H2.out]; rfl, HS7.out⟩
            case true =>
              have H2 := Lib.hid h2
              clear h2
              go_wp2_with fail
              refine (HIS.out a d true _ ha hd H1.out HS5.out.ty).mono ?_
              rintro e u6 ⟨rfl, hbn⟩
              have HS6 := Lib.hid (HS5.out.up hbn)
              clear hbn k0 k1
              have k0 := HS6.out.c0
              have k1 := HS6.out.c1
              go_wp2_with fail
              refine (HIS.out b d true _ hb hd H2.out HS6.out.ty).mono ?_
              rintro e u7 ⟨rfl, hbn⟩
              have HS7 := Lib.hid (HS6.out.up hbn)
              clear hbn k0 k1
              have k0 := HS7.out.c0
              have k1 := HS7.out.c1
              go_wp2_with fail
              go_meet
              exact ⟨by rw [HBV.out, H1.out, H2.out]; rfl, HS7.out⟩
        case rest =>
          obtain ⟨rfl, hs⟩ := hcut
          clear k0 k1
          have HS6 := Lib.hid hs
          clear hs
          have k0 := HS6.out.c0
          have k1 := HS6.out.c1
          rcases HJS.out with ⟨z0, z1, z2, z3⟩ | ⟨z0, z1⟩
          · subst z0
            have H1 := Lib.hid z1
            have H2 := Lib.hid z2
            have H3 := Lib.hid z3
            have hj := hjl
            clear z1 z2 z3
            cases bv
            case false =>
              go_wp2_with fail
              refine (HIS.out a j true _ ha hj H1.out HS6.out.ty).mono ?_
              rintro e u7 ⟨rfl, hbn⟩
              have HS7 := Lib.hid (HS6.out.up hbn)
              clear hbn k0 k1
              have k0 := HS7.out.c0
              have k1 := HS7.out.c1
              go_wp2_with fail
              refine (HIS.out b j true _ hb hj H2.out HS7.out.ty).mono ?_
              rintro e u8 ⟨rfl, hbn⟩
              have HS8 := Lib.hid (HS7.out.up hbn)
              clear hbn k0 k1
              have k0 := HS8.out.c0
              have k1 := HS8.out.c1
              go_wp2_with fail
              refine (HIS.out j d false _ hj hd H3.out HS8.out.ty).mono ?_
              rintro e u9 ⟨rfl, hbn⟩
              have HS9 := Lib.hid (HS8.out.up hbn)
              clear hbn k0 k1
              have k0 := HS9.out.c0
              have k1 := HS9.out.c1
              go_wp2_with fail
              go_ret
              exact ⟨rfl, HS9.out.be⟩
            case true =>
              go_wp2_with fail
              refine (HIS.out a j true _ ha hj H1.out HS6.out.ty).mono ?_
              rintro e u7 ⟨rfl, hbn⟩
              have HS7 := Lib.hid (HS6.out.up hbn)
              clear hbn k0 k1
              have k0 := HS7.out.c0
              have k1 := HS7.out.c1
              go_wp2_with fail
              refine (HIS.out b j true _ hb hj H2.out HS7.out.ty).mono ?_
              rintro e u8 ⟨rfl, hbn⟩
              have HS8 := Lib.hid (HS7.out.up hbn)
              clear hbn k0 k1
              have k0 := HS8.out.c0
              have k1 := HS8.out.c1
              go_wp2_with fail
              refine (HIS.out j d true _ hj hd H3.out HS8.out.ty).mono ?_
              rintro e u9 ⟨rfl, hbn⟩
              have HS9 := Lib.hid (HS8.out.up hbn)
              clear hbn k0 k1
              have k0 := HS9.out.c0
              have k1 := HS9.out.c1
              go_wp2_with fail
              go_ret
              exact ⟨rfl, HS9.out.be⟩
          · have t1 : ((fr : Int) == 0) = false := beq_eq_false_iff_ne.2 (by omega)
            have t2 : ((fr : Int) == 10) = true := by rw [z0]; rfl
            have HBF := Lib.hid z1
            clear z0 z1
            go_wp2_with fail
            go_ret
            exact ⟨ret_bool (by rw [HBF.out]; rfl), HS6.out.be⟩

end Go.Proofs.Ytgpcaofikmdpjaa

namespace Go.Proofs.Ytgpcaofikmdpjaa.typesBounds
open Go.ChangeShapes Go.WideShapes Go.ChangeAt Go.RowKit Go.Deep

set_option maxRecDepth 100000 in
theorem lifted (os : Os) (started : os.Started) (H : Type) (enc : TypeId × Value → H) :
    ReturnsInHanded {} Try.checked os 9 .any (Rows.typesBoundsSpec.pre6 enc Try.prog Try.f9 Rows.typesBoundsRow.domain false) (Rows.typesBoundsSpec.post enc Try.prog Try.f9 false true false false) := by
  refine returnsInHanded_of_change_sized (C := Try.checked) ownNone started (by kernel_rfl) Try.func9
    (ChangeSpec.witness6 (enc := enc) (C := Try.checked) false ⟨#[], #[.slice none 0 0, .agg #[.int .u8 0, .int .u8 0, .int .u8 0]], []⟩ 8 (by kernel_rfl) (by kernel_rfl) (by kernel_rfl) (by kernel_rfl)) ?_
  intro W base args ds gs before hval0 hW hcnd hwt0 _
  have hwt : (DataW.weightsEach Try.prog (Try.f9.params.toList ++ Rows.typesBoundsSpec.plain.varTypes Try.prog) (ds ++ gs)).all (· ≤ reachBytes) = true := hwt0
  have hval : ∀ (j : Nat) t v, Try.f9.params[j]? = some t → args[j]? = some v → Value.okWide Try.prog W .any base t v := hval0
  have hW' := hW
  obtain ⟨p, q, hA0, hV, rfl, hfz, hnd⟩ := hW
  have hA : DataW.TrodAll enc Try.prog W 0 (fun _ => true) true Try.f9.params.toList args.toList ds p := hA0
  rw [Try.params9] at hA hval hwt
  clear hwt0
  obtain ⟨v0, v1, d0, d1, p0, p1, rfl, rfl, rfl, h0, h1⟩ := trodAll_two hA
  obtain ⟨rfl, rfl⟩ := trodVars_none hV
  clear hA0 hval0
  simp only [List.append_nil] at hW'
  have hlt : ∀ x ∈ p0 ++ p1, x.block < W.heap.size := fun x hx => by simpa using hW'.lt x (by simpa using hx)
  have k0 := h0
  obtain ⟨a0, len0, cap0, rfl⟩ := okWide_slice Try.underlying47 (hval 0 47 v0 rfl rfl)
  obtain ⟨f0, g0⟩ := h0
  obtain ⟨A0, xs0, c0, e0, hT0, hG0, hl0, hm0⟩ := open_p g0
  simp [Value.cells] at e0
  obtain ⟨rfl, rfl, rfl⟩ := e0
  have k1 := h1
  obtain ⟨cs1, rfl, _⟩ := okWide_array Try.underlying48 (hval 1 48 v1 rfl rfl)
  obtain ⟨f1, g1⟩ := h1
  obtain ⟨y1, e1, hG1⟩ := three_of g1
  obtain rfl := agg_of (e1)
  refine (lawBounds (awake_any pc) pc xs0 a0 cap0 y1 W (hG0 (Nat.le_trans hl0 hm0) hT0) hG1).mono fun e W' ⟨he, hg⟩ => ?_
  subst he
  exact ⟨_, rfl, _, _, _, [], p0 ++ p1, [], hW', trodAll_cons_mk (shut_bool Try.underlying4 _) trodAll_mk0, trodAll_mk2 (Below.trod laidOut (by kernel_rfl) (of_decide_eq_true (by kernel_rfl)) k0 hg (fun x hx => hlt x (List.mem_append_left _ hx))) (Below.trod laidOut (by kernel_rfl) (of_decide_eq_true (by kernel_rfl)) k1 hg (fun x hx => hlt x (List.mem_append_right _ hx))), rfl, hg.frame _, fun h => by cases h⟩

theorem over : Rows.typesBoundsRow.holds Try.pinned (OpenSpec.ofChange Rows.typesBoundsSpec) :=
  OpenClaim.holds_of_wide 9 Try.f9 rfl rfl rfl rfl rfl rfl rfl ⟨rfl, rfl, rfl, rfl, rfl⟩ rfl rfl rfl rfl rfl (by kernel_rfl) Try.func9 (by kernel_rfl)
    (of_decide_eq_true (by kernel_rfl)) (by unfold Func.isWrapper; first | (rw [if_pos (by decide +kernel)]; kernel_rfl) | (rw [if_neg (by decide +kernel)]; exact ⟨rfl, rfl⟩))
    (fun os started H enc _ => lifted os started H enc)

theorem proved : Rows.TypesBoundsSaid := over

end Go.Proofs.Ytgpcaofikmdpjaa.typesBounds
