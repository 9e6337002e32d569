/-
  Difference: Implies of the reference.
-/
import Derived.Test.YtcmibhechhcpiaaDStack
namespace Go.Proofs.Ytcmibhechhcpiaa
open Go.RowKit

/-- all solutions of l are solutions of y -/
def Impl (l y : List Arc) : Prop := ∀ v, Pot l v → Pot y v
theorem impl_none {n : Nat} {l y : List Arc} (h12 : n ≤ 12) (hs : Small l) (h : ¬ OkB n l) : Impl l y := fun _ hv => absurd (ok_of_pot h12 hs hv) h
theorem impl_iff {n : Nat} {l y : List Arc} (hn : inN n l) (h12 : n ≤ 12) (hs : Small l) (hy : Small y) (h : OkB n l) : (∀ a ∈ y, dst n l a.f a.g ≤ a.c) ↔ Impl l y := by
  constructor
  · intro hd v hv a ha
    have := (implied_iff hn h12 hs h (f := a.f) (t := a.g) (c := a.c) (hy a ha).2).2 (hd a ha) v hv
    omega
  · intro hi a ha
    refine (implied_iff hn h12 hs h (f := a.f) (t := a.g) (c := a.c) (hy a ha).2).1 fun v hv => ?_
    have := hi v hv a ha
    omega

theorem tst_one {w : World} {g : Nat} {x : Tst} (h : w.heap[g]? = some (.cells #[.int .i64 x.k, .int .i64 x.lv, .int .i64 x.la, .int .i64 x.rv, .int .i64 x.ra] 32 (0, 0))) : Tsts w w.heap.size (some ⟨g, 0, none⟩) [x] := by
  refine .inr ⟨g, 0, rfl, (Array.getElem?_eq_some_iff.1 h).1, fun i y hy j u hu => ?_⟩
  cases i with
  | zero =>
    simp only [List.getElem?_cons_zero, Option.some.injEq] at hy
    subst hy
    have := news_of (E := ETst) h rfl j u hu
    rw [addr_plain] at this
    rw [Nat.zero_mul, Nat.add_zero]
    exact this
  | succ i => simp at hy

set_option maxRecDepth 100000 in
set_option maxHeartbeats 4000000 in
theorem implies_any (n : Int) (xs : List Tst) (A : Option Addr) (c : Nat) (x : Tst) (w : World) (hl : xs.length ≤ maxLen) (hT : Tsts w w.heap.size A xs) :
    Calls Try.prog 33 #[.int .i64 n, .slice A xs.length c, tval x] w fun e w' => Below w.heap.size w w' ∧
      ((validS n xs ≠ 0 ∧ e = .returned (.tuple #[.bool false, .int .i64 (validS n xs)])) ∨
       (validS n xs = 0 ∧ oneS n x ≠ 0 ∧ e = .returned (.tuple #[.bool false, .int .i64 (oneS n x)])) ∨
       (validS n xs = 0 ∧ oneS n x = 0 ∧ ∃ b : Bool, e = .returned (.tuple #[.bool b, .int .i64 0]) ∧ (b = true ↔ Impl (arcsL xs) (arcsL [x])))) := by
  have HVu := Lib.hid (fun u hu => valid_any n xs A c u hl hu)
  have HT := Lib.hid hT
  have HB0 := Lib.hid (fun (o : Obj) => (Below.refl w.heap.size w).alloc (Nat.le_refl _) o)
  clear hT
  by_cases hv : validS n xs = 0
  · rw [hv] at HVu
    have HOu := Lib.hid (fun u => one_any n x u)
    obtain ⟨k, lv, la, rv, ra⟩ := x
    have HBX : Hid (∀ u, Below (w.heap.size + 1) (w.alloc (.cells #[.int .i64 k, .int .i64 lv, .int .i64 la, .int .i64 rv, .int .i64 ra] 32 (0, 0))) u → u.cell? ⟨w.heap.size, 0, none⟩ = some (.int .i64 k) ∧ u.cell? ⟨w.heap.size, 1, none⟩ = some (.int .i64 lv) ∧ u.cell? ⟨w.heap.size, 2, none⟩ = some (.int .i64 la) ∧ u.cell? ⟨w.heap.size, 3, none⟩ = some (.int .i64 rv) ∧ u.cell? ⟨w.heap.size, 4, none⟩ = some (.int .i64 ra)) := Lib.hid fun u hu => by
      refine ⟨(hu.cell (p := ⟨w.heap.size, 0, none⟩) (by simp)).trans (by simp), (hu.cell (p := ⟨w.heap.size, 1, none⟩) (by simp)).trans (by simp), (hu.cell (p := ⟨w.heap.size, 2, none⟩) (by simp)).trans (by simp), (hu.cell (p := ⟨w.heap.size, 3, none⟩) (by simp)).trans (by simp), (hu.cell (p := ⟨w.heap.size, 4, none⟩) (by simp)).trans (by simp)⟩
    by_cases ho : oneS n ⟨k, lv, la, rv, ra⟩ = 0
    · obtain ⟨⟨hn0, hn12⟩, hl40, hg⟩ := validS_zero.1 hv
      have hgx : ∀ y ∈ [(⟨k, lv, la, rv, ra⟩ : Tst)], Good n y := fun y hy => by simp at hy; subst hy; exact one_zero.1 ho
      rw [ho] at HOu
      obtain ⟨m, rfl⟩ : ∃ m : Nat, n = m := ⟨n.toNat, by omega⟩
      have hin := arcs_in hg
      have hsm := arcs_small hg
      have hiy := arcs_in hgx
      have hsy := arcs_small hgx
      rw [show ((m : Int)).toNat = m by omega] at hin hiy
      have hm : m ≤ 12 := by omega
      have HD := Lib.hid (fun u hu => distances_any m xs A c u hm (by omega) hg hu)
      have HAR : Hid (∀ (B : Option Addr) (u : World), Tsts u u.heap.size B [⟨k, lv, la, rv, ra⟩] → Calls Try.prog 52 #[.slice B 1 1] u fun e w' => ∃ v, e = .returned v ∧ OwnA w' u.heap.size v (arcsL [⟨k, lv, la, rv, ra⟩]) ∧ Below u.heap.size u w') :=
        Lib.hid fun B u hu => arcs_any m [⟨k, lv, la, rv, ra⟩] B 1 u (by simp) hgx (by omega) hu
      have hly : (arcsL [(⟨k, lv, la, rv, ra⟩ : Tst)]).length ≤ 2 := arcsF_len _ _
      have HNI := Lib.hid (fun h => impl_none (y := arcsL [⟨k, lv, la, rv, ra⟩]) hm hsm h)
      have HYI := Lib.hid (fun h => impl_iff hin hm hsm hsy h)
      have HIY := Lib.hid hiy
      have hv0 := hv
      have ho0 := ho
      clear hg hgx hin hsm hiy hsy hv ho hn0 hn12
      generalize arcsL [(⟨k, lv, la, rv, ra⟩ : Tst)] = y at HAR hly HNI HYI HIY ⊢
      generalize arcsL xs = l at HD HNI HYI ⊢
      go_enter Try.func33, Try.ntmps33
      go_wp2_with fail
      refine (HVu.out _ (Reads.up HT.out (HB0.out _))).mono ?_
      rintro e w1 ⟨rfl, hb1⟩
      have HB1 := Lib.hid (below_one hb1)
      obtain ⟨p0, p1, p2, p3, p4⟩ := HBX.out w1 HB1.out
      clear hb1 HVu
      go_wp2_with fail
      refine (HOu.out _).mono ?_
      rintro e w2 ⟨rfl, hb2⟩
      have HB2 := Lib.hid (HB1.out.trans (hb2.mono (by have := HB1.out.size; simpa using this)))
      clear hb2 HOu p0 p1 p2 p3 p4
      go_wp2_with fail
      refine (HD.out _ (Reads.up HT.out ((HB0.out _).trans (HB2.out.mono (by omega))))).mono ?_
      rintro e w3 ⟨hb3, h3⟩
      have hsz2 : w.heap.size + 1 ≤ w2.heap.size := by have := HB2.out.size; simpa using this
      have HB3 := Lib.hid (HB2.out.trans (hb3.mono hsz2))
      clear hb3 HD
      rcases h3 with ⟨hok, vd, rfl, hd⟩ | ⟨hok, rfl⟩
      case inr =>
        have HI := Lib.hid (HNI.out hok)
        clear hok
        go_wp2_with fail
        go_ret2
        exact ⟨(HB0.out _).trans (HB3.out.mono (by omega)), .inr (.inr ⟨hv0, ho0, true, rfl, fun _ => HI.out, fun _ => rfl⟩)⟩
      have HI := Lib.hid (HYI.out hok)
      have HM3 := Lib.hid (hd.mono (show w.heap.size ≤ w2.heap.size by omega))
      have hsz3 : w.heap.size + 1 ≤ w3.heap.size := by have := HB3.out.size; simpa using this
      obtain ⟨p0, p1, p2, p3, p4⟩ := HBX.out w3 HB3.out
      clear hok hd HNI HYI
      go_wp2_with fail
      refine (HAR.out _ _ (tst_one (x := ⟨k, lv, la, rv, ra⟩) (heap_alloc_new _ _))).mono ?_
      rintro e w4 ⟨va, rfl, ha, hb4⟩
      obtain ⟨Aa, ca, rfl⟩ := OwnE.slice ha
      have HM4 := Lib.hid ((HM3.out.alloc _).below hb4 (Nat.le_refl _))
      have HA4 := Lib.hid (ha.mono (show w.heap.size ≤ _ by simp; omega))
      have HB4 := Lib.hid ((((HB0.out _).trans (HB3.out.mono (by omega))).alloc (by omega) _).trans (hb4.mono (show w.heap.size ≤ _ by simp; omega)))
      clear ha hb4 p0 p1 p2 p3 p4 HAR HBX HB0 HB1 HB2 HB3 HM3
      obtain ⟨b0, c0, rfl⟩ : ∃ b c, vd = .slice (some ⟨b, 0, none⟩) (m + 1) c := by
        obtain ⟨b, c, _, _, e, _⟩ := HM4.out.at (k := 0) (by omega)
        exact ⟨b, c, e⟩
      go_wp2_with fail
      go_loopw [13] (fun ui wr => ∃ i : Nat, i ≤ y.length ∧ ui = .int .i64 i ∧ (∀ a ∈ y.take i, dst m l a.f a.g ≤ a.c) ∧ OwnA wr w.heap.size (.slice Aa y.length ca) y ∧ OwnM wr w.heap.size (.slice (some ⟨b0, 0, none⟩) (m + 1) c0) (m + 1) (m + 1) (dst m l) ∧ Below w.heap.size w wr) (fun ui _ => y.length - (intOf ui).toNat)
      case atStart => exact ⟨0, Nat.zero_le _, rfl, (fun a ha => by simp at ha), HA4.out, HM4.out, HB4.out⟩
      case round =>
        obtain ⟨i, hi, rfl, hall, hA, hM, hB⟩ := hrel
        by_cases hlt : i < y.length
        · obtain ⟨b, off, rfl, hbb, k0, k1, k2, k3, k4⟩ := Arcs.cells hA.read hlt
          have HIA := Lib.hid (HIY.out _ (List.getElem_mem hlt))
          have HNO : Hid (¬ dst m l y[i].f y[i].g ≤ y[i].c → ¬ Impl l y) := Lib.hid fun h h2 => h (HI.out.2 h2 _ (List.getElem_mem hlt))
          have HYS : Hid (dst m l y[i].f y[i].g ≤ y[i].c → ∀ a ∈ y.take (i + 1), dst m l a.f a.g ≤ a.c) := Lib.hid fun h a ha => by
            rw [List.take_succ_eq_append_getElem hlt, List.mem_append] at ha
            rcases ha with ha | ha
            · exact hall a ha
            · simp at ha; rw [ha]; exact h
          have HA := Lib.hid hA
          have HM := Lib.hid hM
          have HB := Lib.hid hB
          have i0 : (0 : Int) ≤ (i : Int) := by omega
          have i1 : (i : Int) < (y.length : Int) := by omega
          have i2 : ((i : Int)).toNat = i := by omega
          generalize y[i] = a at k0 k1 k2 k3 k4 HIA HNO HYS
          obtain ⟨xt, xo, xf, xg, xc⟩ := a
          dsimp only at k0 k1 k2 k3 k4 HIA HNO HYS
          obtain ⟨hf, hg⟩ := HIA.out
          obtain ⟨bM, cM', gR, eR, hvM, _, _, mM, _, _, nR, _⟩ := hM.at (k := xf) (by omega)
          simp only [Value.slice.injEq, Option.some.injEq, Addr.mk.injEq, true_and, and_true] at hvM
          obtain ⟨rfl, rfl⟩ := hvM
          have nR := nR xg (by omega)
          have f0 : (0 : Int) ≤ (xf : Int) := by omega
          have f1 : (xf : Int) < (m : Int) + 1 := by omega
          have f2 : ((xf : Int)).toNat = xf := by omega
          have g0 : (0 : Int) ≤ (xg : Int) := by omega
          have g1 : (xg : Int) < (m : Int) + 1 := by omega
          have g2 : ((xg : Int)).toNat = xg := by omega
          generalize dst m l xf xg = z at nR HNO HYS
          clear hall hA hM hB
          by_cases hz : xc < z
          · have t3 : decide (xc < z) = true := decide_eq_true hz
            have HX := Lib.hid (HNO.out (by omega))
            clear HNO HYS
            go_wp2_with fail
            go_region
            go_wp2_with fail
            go_ret2
            exact ⟨Below.drew HB.out, .inr (.inr ⟨hv0, ho0, false, rfl, fun h => (by cases h), fun h => absurd h HX.out⟩)⟩
          · have t3 : decide (xc < z) = false := decide_eq_false hz
            have HX := Lib.hid (HYS.out (by omega))
            clear HNO HYS hz
            go_wp2_with fail
            go_region
            go_wp2_with fail
            go_roundw
            case rel => exact ⟨i + 1, by omega, by go_num, HX.out, HA.out.below (Below.drew (Below.refl _ _)) (Nat.le_refl _), HM.out.below (Below.drew (Below.refl _ _)) (Nat.le_refl _), Below.drew HB.out⟩
            case measure => simp [intOf]; omega
        · have e : i = y.length := by omega
          rw [e, List.take_length] at hall
          have HX := Lib.hid (HI.out.1 hall)
          have HB := Lib.hid hB
          clear hall hA hM hB e
          go_wp2_with fail
          go_ret2
          exact ⟨HB.out, .inr (.inr ⟨hv0, ho0, true, rfl, fun _ => HX.out, fun _ => rfl⟩)⟩
    · generalize oneS n ⟨k, lv, la, rv, ra⟩ = e1 at HOu ho ⊢
      have t1 : ((e1 : Int) != 0) = true := by simp; omega
      go_enter Try.func33, Try.ntmps33
      go_wp2_with fail
      refine (HVu.out _ (Reads.up HT.out (HB0.out _))).mono ?_
      rintro e w1 ⟨rfl, hb1⟩
      have HB1 := Lib.hid (below_one hb1)
      obtain ⟨p0, p1, p2, p3, p4⟩ := HBX.out w1 HB1.out
      clear hb1 HVu
      go_wp2_with fail
      refine (HOu.out _).mono ?_
      rintro e w2 ⟨rfl, hb2⟩
      have HB2 := Lib.hid ((HB0.out _).trans ((HB1.out.trans (hb2.mono (by have := HB1.out.size; simpa using this))).mono (by omega)))
      clear hb2 HOu p0 p1 p2 p3 p4
      go_wp2_with fail
      go_ret2
      exact ⟨HB2.out, .inr (.inl ⟨hv, ho, rfl⟩)⟩
  · generalize validS n xs = e1 at HVu hv ⊢
    have t1 : ((e1 : Int) != 0) = true := by simp; omega
    go_enter Try.func33, Try.ntmps33
    go_wp2_with fail
    refine (HVu.out _ (Reads.up HT.out (HB0.out _))).mono ?_
    rintro e w1 ⟨rfl, hb1⟩
    have HB1 := Lib.hid ((HB0.out _).trans ((below_one hb1).mono (by omega)))
    clear hb1
    go_wp2_with fail
    go_ret2
    exact ⟨HB1.out, .inl ⟨hv, rfl⟩⟩

end Go.Proofs.Ytcmibhechhcpiaa
