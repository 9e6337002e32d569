/-
  Difference, the program: CheckRefute.
  Difference, the program: CheckRefute's walk.
-/
import Derived.Test.YtcmibhechhcpiaaPLinks
import Derived.Test.YtcmibhechhcpiaaPValid
import Derived.Test.YtcmibhechhcpiaaDCheck
namespace Go.Proofs.Ytcmibhechhcpiaa
open Go.RowKit

theorem findS_find (xs : List Tst) (u : Int × Int) : (arcsL xs).find? (isU u) = findS xs u := by
  have hso : Sorted (arcsL xs) := sorted_arcs xs xs.length
  cases hf : findS xs u with
  | some a =>
    obtain ⟨u1, u2⟩ := u
    unfold findS at hf
    dsimp only at hf
    split at hf
    · cases hf
    next h0 =>
    obtain ⟨k, rfl⟩ : ∃ k : Nat, u1 = k := ⟨u1.toNat, by omega⟩
    rw [Int.toNat_natCast] at hf
    have hk : k < xs.length := by omega
    split at hf
    next h1 =>
      injection hf with hf
      refine isU_find hso (arcsF_of hk (a := a) ?_) ?_
      · unfold arcsAt; rw [← hf]; simp
      · rw [isU_iff, ← hf, h1]
    next h1 =>
      split at hf
      next h2 =>
        injection hf with hf
        refine isU_find hso (arcsF_of hk (a := a) ?_) ?_
        · unfold arcsAt; rw [← hf, if_pos h2.2]; simp
        · rw [isU_iff, ← hf, h2.1]
      · cases hf
  | none =>
    rw [List.find?_eq_none]
    intro a ha hu
    obtain ⟨i, hi, ha⟩ := arcsF_mem ha
    have hu := isU_iff.1 hu
    obtain ⟨e1, _⟩ := arcsAt_t ha
    rw [arcsAt_eq] at ha
    rcases List.mem_cons.1 ha with rfl | ha
    · rw [← hu, show ((a1 i (xs.getD i default)).t : Int) = (i : Int) from rfl, show (a1 i (xs.getD i default)).s = 1 from rfl, findS_one hi] at hf
      cases hf
    · split at ha
      next h2 =>
        rcases List.mem_cons.1 ha with rfl | ha
        case inr => simp at ha
        rw [getD_at hi] at h2
        rw [← hu, show ((a2 i (xs.getD i default)).t : Int) = (i : Int) from rfl, show (a2 i (xs.getD i default)).s = -1 from rfl, findS_two hi h2] at hf
        cases hf
      · simp at ha

/-- the same answer, begun where the first use begins -/
theorem chk_start {xs : List Tst} {r : List (Int × Int)} (h : 0 < r.length) : chk (arcsL xs) r = fin ((findS xs r[0]).getD zeroA).f (chkF (arcsL xs) ((findS xs r[0]).getD zeroA).f 0 r) := by
  cases r with
  | nil => simp at h
  | cons u us =>
    rw [List.getElem_cons_zero]
    have e : (arcsL xs).find? (isU u) = findS xs u := findS_find xs u
    simp only [chk, chkF, e]
    cases hf : findS xs u with
    | none => rfl
    | some a =>
      dsimp only [Option.getD_some]
      rw [if_pos rfl, Int.zero_add]

end Go.Proofs.Ytcmibhechhcpiaa

namespace Go.Proofs.Ytcmibhechhcpiaa
open Go.RowKit

set_option maxRecDepth 100000 in
set_option maxHeartbeats 4000000 in
theorem pcheck_any (n : Int) (xs : List Tst) (A : Option Addr) (c : Nat) (r : List (Int × Int)) (A2 : Option Addr) (c2 : Nat) (w : World) (hl : xs.length ≤ maxLen) (hlr : r.length ≤ maxLen) (hT : Tsts w w.heap.size A xs) (hR : Uses w w.heap.size A2 r) :
    Calls Try.prog 25 #[.int .i64 n, .slice A xs.length c, .slice A2 r.length c2] w fun e w' => Below w.heap.size w w' ∧ e = .returned (.bool (checkS n xs r)) := by
  have HV := Lib.hid (pvalid_any n xs A c w hl hT)
  have HT := Lib.hid hT
  have HR := Lib.hid hR
  unfold maxLen at hlr
  by_cases hv : validS n xs = 0
  · rw [hv] at HV
    by_cases hr1 : r.length = 0
    · have HX := Lib.hid (show checkS n xs r = false by unfold checkS; rw [decide_eq_true hv, decide_eq_false (by omega)]; rfl)
      have t1 : ((r.length : Int) == 0) = true := by simp [hr1]
      clear hT hR hv hr1
      go_enter Try.func25, Try.ntmps25
      go_wp2_with fail
      refine HV.out.mono ?_
      rintro e w1 ⟨rfl, hb1⟩
      have HB1 := Lib.hid hb1
      clear hb1
      go_wp2_with fail
      go_ret
      exact ⟨HB1.out, ret_bool HX.out.symm⟩
    have t1 : ((r.length : Int) == 0) = false := by simp; intro h; simp [h] at hr1
    by_cases hr40 : 40 < r.length
    · have HX := Lib.hid (show checkS n xs r = false by unfold checkS; rw [decide_eq_true hv, decide_eq_true (by omega), decide_eq_false (show ¬ r.length ≤ 40 by omega)]; rfl)
      clear hT hR hv hr1
      go_enter Try.func25, Try.ntmps25
      go_wp2_with fail
      refine HV.out.mono ?_
      rintro e w1 ⟨rfl, hb1⟩
      have HB1 := Lib.hid hb1
      clear hb1
      go_wp2_with fail
      go_ret
      exact ⟨HB1.out, ret_bool HX.out.symm⟩
    have hr0 : 0 < r.length := by omega
    have HX := Lib.hid (show checkS n xs r = chk (arcsL xs) r by unfold checkS; rw [decide_eq_true hv, decide_eq_true (by omega), decide_eq_true (show r.length ≤ 40 by omega)]; rfl)
    have HST := Lib.hid (chk_start (xs := xs) hr0)
    obtain ⟨⟨hn0, hn12⟩, hl40, hg⟩ := validS_zero.1 hv
    have HSM := Lib.hid (arcs_small hg)
    have HF := Lib.hid (fun u v hu => find_any n xs A c u v hg (by omega) hu)
    have HFF := Lib.hid (fun u => findS_find xs u)
    generalize checkS n xs r = R at HX ⊢
    obtain ⟨b0, o0, rfl, hb0, z0, z1⟩ := Uses.cells hR hr0
    have hb0' := hb0
    generalize arcsL xs = l at HX HST HSM HFF
    have HF0 := Lib.hid (HF.out r[0])
    generalize findS xs r[0] = F0 at HF0 HST
    generalize hu0 : r[0] = u0 at HF0 z0 z1
    have HU0 := Lib.hid hu0
    clear hT hR hg hv hn0 hn12 hr1 hu0
    have t2 : decide (40 < (r.length : Int)) = false := decide_eq_false (by omega)
    obtain ⟨u01, u02⟩ := u0
    dsimp only at z0 z1
    go_enter Try.func25, Try.ntmps25
    go_wp2_with fail
    refine HV.out.mono ?_
    rintro e w1 ⟨rfl, hb1⟩
    have HT1 := Lib.hid (Reads.up HT.out hb1)
    have HB1 := Lib.hid hb1
    have y0 := (hb1.cell (p := ⟨b0, o0, none⟩) hb0).trans (by simpa using z0)
    have y1 := (hb1.cell (p := ⟨b0, o0 + 1, none⟩) hb0).trans (by simpa using z1)
    have hs1 := hb1.size
    clear hb1 z0 z1
    go_wp2_with fail
    refine (HF0.out _ HT1.out).mono ?_
    rintro e w2 ⟨rfl, hb2⟩
    have HB2 := Lib.hid (HB1.out.trans (hb2.mono hs1))
    have hs2 := HB2.out.size
    clear hb2 y0 y1
    generalize F0.getD zeroA = st at HST
    obtain ⟨st1, st2, sf, st4, st5⟩ := st
    have HF1 := Lib.hid (HX.out.trans HST.out)
    dsimp only at HF1
    clear HX HST HF0 HU0
    go_wp2_with fail
    go_loopw [7, 10, 41] (fun us ua ui wr => ∃ (i p : Nat) (q : Int), i ≤ r.length ∧ ui = .int .i64 i ∧ ua = .int .i64 p ∧ us = .int .i64 q ∧ (-(2000001 * (i : Int)) ≤ q ∧ q ≤ 2000001 * (i : Int)) ∧ R = fin sf (chkF l p q (r.drop i)) ∧ Below (w2.heap.size + 1) (w2.alloc (.cells #[.int .i64 st1, .int .i64 st2, .int .i64 sf, .int .i64 st4, .int .i64 st5] 98 (0, 0))) wr) (fun _ _ ui _ => r.length - (intOf ui).toNat)
    case atStart => exact ⟨0, sf, 0, Nat.zero_le _, rfl, rfl, rfl, by omega, HF1.out, Below.refl _ _⟩
    case round =>
      obtain ⟨i, p, q, hi, rfl, rfl, rfl, ⟨hq1, hq2⟩, hch, hb⟩ := hrel
      have hbw : Below w.heap.size w wr := (HB2.out.alloc hs2 (.cells #[.int .i64 st1, .int .i64 st2, .int .i64 sf, .int .i64 st4, .int .i64 st5] 98 (0, 0))).trans (hb.mono (by omega))
      have kst : wr.cell? ⟨w2.heap.size, 2, none⟩ = some (.int .i64 sf) := (hb.cell (p := ⟨w2.heap.size, 2, none⟩) (by simp)).trans (by simp)
      have HB := Lib.hid hb
      have HBW := Lib.hid hbw
      have hsw := hbw.size
      have hsb : w2.heap.size + 1 ≤ wr.heap.size := by have := hb.size; simpa using this
      by_cases hlt : i < r.length
      · obtain ⟨b, off, e0, hbb, k0, k1⟩ := Uses.cells (Reads.below HR.out hbw) hlt
        simp only [Option.some.injEq, Addr.mk.injEq, and_true] at e0
        obtain ⟨rfl, rfl⟩ := e0
        have HD : Hid (R = fin sf (chkF l p q (r[i] :: r.drop (i + 1)))) := Lib.hid (by rw [← List.drop_eq_getElem_cons hlt]; exact hch)
        have HFI := Lib.hid (HF.out r[i])
        have HFL := Lib.hid (HFF.out r[i])
        have i0 : (0 : Int) ≤ (i : Int) := by omega
        have i1 : (i : Int) < (r.length : Int) := by omega
        have i2 : ((i : Int)).toNat = i := by omega
        generalize r[i] = u at k0 k1 HD HFI HFL
        obtain ⟨u1, u2⟩ := u
        dsimp only at k0 k1
        have HTR := Lib.hid (Reads.up HT.out hbw)
        clear hb hbw hch kst
        cases hf : findS xs (u1, u2) with
        | none =>
          rw [hf] at HFI HFL
          have HN : Hid (R = false) := Lib.hid (by rw [HD.out, chkF_none HFL.out]; rfl)
          have HC : Hid (∀ v, Tsts v v.heap.size A xs → Calls Try.prog 55 #[.slice A xs.length c, .agg #[.int .i64 u1, .int .i64 u2]] v fun e w' => e = .returned (.tuple #[.agg #[.int .i64 0, .int .i64 0, .int .i64 0, .int .i64 0, .int .i64 0], .bool false]) ∧ Below v.heap.size v w') := HFI
          clear hf HFI HFL HD
          go_wp2_with fail
          refine (HC.out _ (HTR.out.up ((Below.refl _ _).alloc (Nat.le_refl _) _))).mono ?_
          rintro e w4 ⟨rfl, hb4⟩
          have HB4 := Lib.hid ((HBW.out.alloc hsw _).trans (hb4.mono (by simp; omega)))
          have hs4 := HB4.out.size
          clear hb4
          go_wp2_with fail
          go_ret
          exact ⟨HB4.out.alloc hs4 _, ret_bool HN.out.symm⟩
        | some a =>
          rw [hf] at HFI HFL
          have HSA := Lib.hid (HSM.out a (List.mem_of_find?_eq_some HFL.out))
          have HON : Hid (a.f = p → R = fin sf (chkF l a.g (q + a.c) (r.drop (i + 1)))) := Lib.hid fun h => by rw [HD.out, chkF_on HFL.out h]
          have HOFF : Hid (a.f ≠ p → R = false) := Lib.hid fun h => by rw [HD.out, chkF_off HFL.out h]; rfl
          obtain ⟨xt, xs', xf, xg, xc⟩ := a
          have HC : Hid (∀ v, Tsts v v.heap.size A xs → Calls Try.prog 55 #[.slice A xs.length c, .agg #[.int .i64 u1, .int .i64 u2]] v fun e w' => e = .returned (.tuple #[.agg #[.int .i64 xt, .int .i64 xs', .int .i64 xf, .int .i64 xg, .int .i64 xc], .bool true]) ∧ Below v.heap.size v w') := HFI
          obtain ⟨hc1, hc2⟩ := HSA.out
          dsimp only at hc1 hc2 HON HOFF
          clear hf HFI HFL HD HSA
          by_cases hp : xf = p
          · subst hp
            have HE := Lib.hid (HON.out rfl)
            clear HON HOFF
            go_wp2_with fail
            refine (HC.out _ (HTR.out.up ((Below.refl _ _).alloc (Nat.le_refl _) _))).mono ?_
            rintro e w4 ⟨rfl, hb4⟩
            have HB4 := Lib.hid ((HB.out.alloc (by simpa using hsb) _).trans (hb4.mono (by simp; omega)))
            have hs4 := HB4.out.size
            simp only [World.size_alloc] at hs4
            clear hb4
            go_wp2_with fail
            go_roundw
            case rel => exact ⟨i + 1, xg, q + xc, by omega, by go_num, rfl, rfl, by omega, HE.out, HB4.out.alloc hs4 _⟩
            case measure => simp [intOf]; omega
          · have HN := Lib.hid (HOFF.out hp)
            have t5 : ((xf : Int) != (p : Int)) = true := by simp; omega
            clear HON HOFF hp
            go_wp2_with fail
            refine (HC.out _ (HTR.out.up ((Below.refl _ _).alloc (Nat.le_refl _) _))).mono ?_
            rintro e w4 ⟨rfl, hb4⟩
            have HB4 := Lib.hid ((HBW.out.alloc hsw _).trans (hb4.mono (by simp; omega)))
            have hs4 := HB4.out.size
            clear hb4
            go_wp2_with fail
            go_ret
            exact ⟨HB4.out.alloc hs4 _, ret_bool HN.out.symm⟩
      · have e : i = r.length := by omega
        have HE : Hid (R = (decide (p = sf) && decide (q < 0))) := Lib.hid (by rw [hch, e, List.drop_length]; rfl)
        clear hb hbw hch e
        by_cases hp : p = sf
        · subst hp
          have HE2 : Hid (R = decide (q < 0)) := Lib.hid (by rw [HE.out, decide_eq_true rfl, Bool.true_and])
          clear HE
          by_cases hq : q < 0
          all_goals
            go_wp2_with fail
            go_ret
            exact ⟨HBW.out, ret_bool (by simp [HE2.out, hq])⟩
        · have HE2 : Hid (R = false) := Lib.hid (by rw [HE.out, decide_eq_false hp, Bool.false_and])
          have t5 : ((p : Int) == (sf : Int)) = false := by simp; omega
          clear HE hp
          go_wp2_with fail
          go_ret
          exact ⟨HBW.out, ret_bool HE2.out.symm⟩
  · generalize hvE : validS n xs = e1 at HV hv
    have HX : Hid (checkS n xs r = false) := Lib.hid (by unfold checkS; rw [hvE, decide_eq_false hv]; rfl)
    have t1 : ((e1 : Int) != 0) = true := by simp; omega
    clear hT hvE
    go_enter Try.func25, Try.ntmps25
    go_wp2_with fail
    refine HV.out.mono ?_
    rintro e w1 ⟨rfl, hb1⟩
    have HB1 := Lib.hid hb1
    clear hb1
    go_wp2_with fail
    go_ret
    exact ⟨HB1.out, ret_bool HX.out.symm⟩

end Go.Proofs.Ytcmibhechhcpiaa
