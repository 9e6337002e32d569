/-
  DifferenceOpposite: for every number, all codes and every code the law returns true. No condition.
-/
import Derived.Test.YtcmibhechhcpiaaDOpp
import Derived.Test.YtcmibhechhcpiaaDProg
import Derived.Test.YtcmibhechhcpiaaChecked
import Derived.Test.YtcmibhechhcpiaaRows
namespace Go.Proofs.Ytcmibhechhcpiaa
open Go.RowKit

set_option maxRecDepth 100000 in
set_option maxHeartbeats 4000000 in
theorem lawOpposite (hp : PC) (n : Int) (cs : List Code4) (A : Option Addr) (c : Nat) (y : Code4) (w : World) (hn : 0 ≤ n ∧ n ≤ 255) (h8 : ∀ x ∈ cs, C8 x) (hl : cs.length ≤ maxLen) (hA : Codes w w.heap.size A cs) (hy : C8 y) :
    Calls Try.prog 10 #[.int .u8 n, .slice A cs.length c, cval y.1 y.2.1 y.2.2.1 y.2.2.2] w fun e w' => e = .returned (.bool true) ∧ Below w.heap.size w w' := by
  have HA := Lib.hid hA
  have H8 := Lib.hid h8
  unfold maxLen at hl
  obtain ⟨y0, y1, y2, y3⟩ := y
  obtain ⟨g0, g1, g2, g3⟩ := hy
  dsimp only at g0 g1 g2 g3
  clear hA h8
  by_cases h45 : 20 < cs.length
  · clear hn
    go_enter Try.func10, Try.ntmps10
    have HB0 := Lib.hid (fun (o : Obj) => (Below.refl w.heap.size w).alloc (Nat.le_refl _) o)
    go_wp2_with fail
    refine (awake_any hp _).mono ?_
    rintro e w1 ⟨rfl, hb1⟩
    have HB1 := Lib.hid ((HB0.out _).trans (hb1.mono (by simp)))
    clear hb1
    go_wp2_with fail
    refine (awake_any hp _).mono ?_
    rintro e w2 ⟨rfl, hb2⟩
    go_wp2_with fail
    go_ret
    exact ⟨rfl, HB1.out.trans (hb2.mono HB1.out.size)⟩
  · obtain ⟨n0, n1⟩ := hn
    have q0 := Int.emod_nonneg n (show (6 : Int) ≠ 0 by omega)
    have q1 := Int.emod_lt_of_pos n (show (0 : Int) < 6 by omega)
    have HLN := Lib.hid (fewS_len (n % 6) cs)
    have HM := Lib.hid (fun u => made_any (n % 6) y0 y1 y2 y3 u q0 (by omega) g0 g1 g2 g3)
    have hgm := made_good q0 y0 y1 y2 y3
    have HBX : Hid (∀ u, Below (w.heap.size + 1) (w.alloc (.cells #[.int .i8 y0, .int .i8 y1, .int .i8 y2, .int .i8 y3] 61 (0, 0))) u → u.cell? ⟨w.heap.size, 0, none⟩ = some (.int .i8 y0) ∧ u.cell? ⟨w.heap.size, 1, none⟩ = some (.int .i8 y1) ∧ u.cell? ⟨w.heap.size, 2, none⟩ = some (.int .i8 y2) ∧ u.cell? ⟨w.heap.size, 3, none⟩ = some (.int .i8 y3)) := Lib.hid fun u hu =>
      ⟨(hu.cell (p := ⟨w.heap.size, 0, none⟩) (by simp)).trans (by simp), (hu.cell (p := ⟨w.heap.size, 1, none⟩) (by simp)).trans (by simp), (hu.cell (p := ⟨w.heap.size, 2, none⟩) (by simp)).trans (by simp), (hu.cell (p := ⟨w.heap.size, 3, none⟩) (by simp)).trans (by simp)⟩
    go_enter Try.func10, Try.ntmps10
    have HB0 := Lib.hid (fun (o : Obj) => (Below.refl w.heap.size w).alloc (Nat.le_refl _) o)
    go_wp2_with fail
    refine (awake_any hp _).mono ?_
    rintro e w1 ⟨rfl, hb1⟩
    have HB1 := Lib.hid (below_one hb1)
    have HA1 := Lib.hid (Reads.up HA.out ((HB0.out _).trans (HB1.out.mono (by omega))))
    have hs1 : w.heap.size + 1 ≤ w1.heap.size := by have := HB1.out.size; simpa using this
    clear hb1 HA
    go_wp2_with fail
    refine (few_any n cs _ _ _ n0 n1 (by omega) H8.out HA1.out).mono ?_
    rintro e w2 ⟨v, rfl, ho, hb2⟩
    have HB2 := Lib.hid (HB1.out.trans (hb2.mono hs1))
    have hs2 : w.heap.size + 1 ≤ w2.heap.size := by have := HB2.out.size; simpa using this
    obtain ⟨p0, p1, p2, p3⟩ := HBX.out w2 HB2.out
    obtain ⟨A2, c2, rfl, hT⟩ := OwnE.reads ho
    have HT2 := Lib.hid hT
    clear ho hT hb2 HA1 HB1 HBX
    have HVS := Lib.hid (validS_zero.2 ⟨⟨q0, show n % 6 ≤ 12 by omega⟩, show (fewS (n % 6) cs).length ≤ 40 by rw [fewS_len]; omega, fewS_good q0 cs⟩)
    generalize fewS (n % 6) cs = l at HT2 HLN HVS ⊢
    have hra : -12 < (madeS (n % 6) y0 y1 y2 y3).ra ∧ (madeS (n % 6) y0 y1 y2 y3).ra < 12 := (rem_facts y3 12 (by omega)).2
    generalize madeS (n % 6) y0 y1 y2 y3 = M at HM hgm hra
    obtain ⟨mk, mlv, mla, mrv, mra⟩ := M
    go_wp2_with fail
    refine (HM.out _).mono ?_
    rintro e w3 ⟨rfl, hb3⟩
    have HB3 := Lib.hid ((HB0.out _).trans ((HB2.out.trans (hb3.mono hs2)).mono (by omega)))
    have HT3 := Lib.hid (HT2.out.up hb3)
    clear hb3 HB2 HT2 HB0 p0 p1 p2 p3
    go_wp2_with fail
    generalize hwv : w3.alloc (.cells #[.int .i64 1, .int .i64 mlv, .int .i64 mla, .int .i64 mrv, .int .i64 mra] 32) = wv
    have HCELL : Hid (∀ u, Below wv.heap.size wv u → u.cell? ⟨w3.heap.size, 0, none⟩ = some (.int .i64 1) ∧ u.cell? ⟨w3.heap.size, 1, none⟩ = some (.int .i64 mlv) ∧ u.cell? ⟨w3.heap.size, 2, none⟩ = some (.int .i64 mla) ∧ u.cell? ⟨w3.heap.size, 3, none⟩ = some (.int .i64 mrv) ∧ u.cell? ⟨w3.heap.size, 4, none⟩ = some (.int .i64 mra) ∧ Below wv.heap.size wv u) := Lib.hid fun u hu => by
      subst hwv
      exact ⟨(hu.cell (p := ⟨w3.heap.size, 0, none⟩) (by simp)).trans (by simp), (hu.cell (p := ⟨w3.heap.size, 1, none⟩) (by simp)).trans (by simp), (hu.cell (p := ⟨w3.heap.size, 2, none⟩) (by simp)).trans (by simp), (hu.cell (p := ⟨w3.heap.size, 3, none⟩) (by simp)).trans (by simp), (hu.cell (p := ⟨w3.heap.size, 4, none⟩) (by simp)).trans (by simp), hu⟩
    have HTv := Lib.hid (show Tsts wv wv.heap.size A2 l by subst hwv; exact HT3.out.up ((Below.refl _ w3).alloc (Nat.le_refl _) _))
    have HBv := Lib.hid (show Below w.heap.size w wv by subst hwv; exact HB3.out.alloc HB3.out.size _)
    have HCL : Hid (∀ u, u.cell? ⟨w3.heap.size, 0, none⟩ = some (.int .i64 1) ∧ u.cell? ⟨w3.heap.size, 1, none⟩ = some (.int .i64 mlv) ∧ u.cell? ⟨w3.heap.size, 2, none⟩ = some (.int .i64 mla) ∧ u.cell? ⟨w3.heap.size, 3, none⟩ = some (.int .i64 mrv) ∧ u.cell? ⟨w3.heap.size, 4, none⟩ = some (.int .i64 mra) ∧ Below wv.heap.size wv u → Calls Try.prog 14 #[.slice A2 l.length c2] u fun e w' => ∃ A' c', e = .returned (.slice A' l.length c') ∧ OwnT w' wv.heap.size (.slice A' l.length c') l ∧ Below u.heap.size u w' ∧ w'.cell? ⟨w3.heap.size, 0, none⟩ = some (.int .i64 1) ∧ w'.cell? ⟨w3.heap.size, 1, none⟩ = some (.int .i64 mlv) ∧ w'.cell? ⟨w3.heap.size, 2, none⟩ = some (.int .i64 mla) ∧ w'.cell? ⟨w3.heap.size, 3, none⟩ = some (.int .i64 mrv) ∧ w'.cell? ⟨w3.heap.size, 4, none⟩ = some (.int .i64 mra) ∧ Below wv.heap.size wv w') := Lib.hid fun u hu => by
      obtain ⟨_, _, _, _, _, hu⟩ := hu
      refine (cloneT_own l _ _ _ _ (by have := HLN.out; omega) (Reads.up HTv.out hu)).mono ?_
      rintro e w' ⟨A', c', rfl, h1, h2⟩
      exact ⟨A', c', rfl, h1.mono hu.size, h2, HCELL.out w' (hu.trans (h2.mono hu.size))⟩
    obtain ⟨p0, p1, p2, p3, p4, p5⟩ := HCELL.out wv (Below.refl _ _)
    have HG64 : Hid (∀ x ∈ l, T64 x) := Lib.hid fun x hx => good_64 (show n % 6 ≤ 12 by omega) ((validS_zero.1 HVS.out).2.2 x hx)
    have H641 : Hid (T64 ⟨1, mlv, mla, mrv, mra⟩) := Lib.hid (good_64 (show n % 6 ≤ 12 by omega) (le_good hgm))
    have HWR : Hid (IntKind.i64.wrap (mra + 1) = mra + 1) := Lib.hid (by rw [IntKind.wrap_i64]; omega)
    clear HT3 HB3 hwv
    go_region_held3 (fun u => u.cell? ⟨w3.heap.size, 0, none⟩ = some (.int .i64 1) ∧ u.cell? ⟨w3.heap.size, 1, none⟩ = some (.int .i64 mlv) ∧ u.cell? ⟨w3.heap.size, 2, none⟩ = some (.int .i64 mla) ∧ u.cell? ⟨w3.heap.size, 3, none⟩ = some (.int .i64 mrv) ∧ u.cell? ⟨w3.heap.size, 4, none⟩ = some (.int .i64 mra) ∧ Below wv.heap.size wv u) (first | assumption | (exact ⟨by assumption, by assumption, by assumption, by assumption, by assumption, Below.drew (by assumption)⟩) | (go_split_ands; exact HCELL.out _ (below_alloc (by assumption) _)) | (go_split_ands; exact HCELL.out _ (Below.trans (by assumption) hb5)))
      (first
        | (with_reducible refine (HCL.out _ (by assumption)).mono ?_; rintro e wc ⟨A', c', rfl, hoc, hbc, hsc⟩)
        | (refine step_append_tst (by rfl) _ _ (by rfl) wv.heap.size _ l (by rfl) (hoc.alloc _) wc.heap.size 1 ⟨1, mrv, IntKind.i64.wrap (mra + 1), mlv, mla⟩ (by rfl) (heap_alloc_new _ _) (by have := HLN.out; omega) (by have := hsc.2.2.2.2.2.size; simp; omega) ?_; intro v5 w5 hown5 _ hb5)
        | (refine step_append_tst (by rfl) _ _ (by rfl) wv.heap.size _ l (by rfl) hoc wv.heap.size 1 ⟨1, mrv, IntKind.i64.wrap (mra + 1), mlv, mla⟩ (by rfl) ((hbc.block _ (by simp)).trans (heap_alloc_new _ _)) (by have := HLN.out; omega) (by have := hsc.2.2.2.2.2.size; omega) ?_; intro v5 w5 hown5 _ hb5))
    all_goals
      have hB5 : Below wv.heap.size wv w5 := by
        first
          | exact (below_alloc hsc.2.2.2.2.2 _).trans hb5
          | exact hsc.2.2.2.2.2.trans hb5
      rw [HWR.out] at hown5
      generalize hl2 : l ++ [(⟨1, mrv, mra + 1, mlv, mla⟩ : Tst)] = l2 at hown5
      have HSO : Hid (∀ b, ImpIs (n % 6) l ⟨1, mlv, mla, mrv, mra⟩ b → impE (n % 6) l ⟨1, mlv, mla, mrv, mra⟩ = 0 ∧ b = decide (solE (n % 6) l2 = 10)) := Lib.hid fun b hb => by
        subst hl2
        exact opp_sol HVS.out (by have := HLN.out; omega) hgm (by dsimp only; omega) hb
      have HL2 : Hid (l2.length ≤ 1000) := Lib.hid (by subst hl2; have := HLN.out; simp; omega)
      have H642 : Hid (∀ x ∈ l2, T64 x) := Lib.hid fun x hx => by
        subst hl2
        rw [List.mem_append] at hx
        rcases hx with hx | hx
        · exact HG64.out x hx
        · simp only [List.mem_singleton] at hx
          subst hx
          exact good_64 (show n % 6 ≤ 12 by omega) (opp_good hgm (by dsimp only; omega))
      obtain ⟨A5, c5, rfl, hT5⟩ := OwnE.reads hown5
      obtain ⟨a0, a1, a2, a3, a4, _⟩ := HCELL.out w5 hB5
      have HT5 := Lib.hid hT5
      have HTl := Lib.hid (HTv.out.up hB5)
      have HB5 := Lib.hid (HBv.out.trans (hB5.mono HBv.out.size))
      clear hown5 hT5 hb5 hB5 hsc hbc hoc HCL HCELL HTv HBv p0 p1 p2 p3 p4 p5 hl2 HVS
      go_wp2_with fail
      refine (hp.imp (n % 6) l A2 c2 ⟨1, mlv, mla, mrv, mra⟩ _ (by omega) HG64.out H641.out (by have := HLN.out; omega) HTl.out).mono ?_
      rintro e w6 ⟨b, hb, rfl, hb6⟩
      obtain ⟨e1, e2⟩ := HSO.out b hb
      rw [e1]
      have HE2 := Lib.hid e2
      have HT6 := Lib.hid (HT5.out.up hb6)
      have HB6 := Lib.hid (HB5.out.trans (hb6.mono HB5.out.size))
      clear hb hb6 e1 e2 HSO HT5 HTl HB5 a0 a1 a2 a3 a4
      go_wp2_with fail
      refine (hp.sol (n % 6) l2 A5 c5 _ (by omega) H642.out HL2.out HT6.out).mono ?_
      rintro e w7 ⟨A7, c7, rfl, _, hb7⟩
      have HB7 := Lib.hid (HB6.out.trans (hb7.mono HB6.out.size))
      clear hb7 HT6 HB6
      generalize solE (n % 6) l2 = e2 at HE2 ⊢
      by_cases he : e2 = 10
      · have HBT := Lib.hid (show b = true by rw [HE2.out]; exact decide_eq_true he)
        subst he
        rw [HBT.out]
        go_wp2_with fail
        go_ret
        exact ⟨rfl, HB7.out⟩
      · have HBF := Lib.hid (show b = false by rw [HE2.out]; exact decide_eq_false he)
        rw [HBF.out]
        have t1 : ((e2 : Int) == 10) = false := by simp; omega
        go_wp2_with fail
        go_ret
        exact ⟨rfl, HB7.out⟩

end Go.Proofs.Ytcmibhechhcpiaa
namespace Go.Proofs.Ytcmibhechhcpiaa.differenceOpposite
open Go.ChangeShapes Go.WideShapes Go.ChangeAt Go.RowKit Go.Deep

set_option maxRecDepth 100000 in
theorem lifted (os : Os) (started : os.Started) (H : Type) (enc : TypeId × Value → H) :
    ReturnsInHanded {} Try.checked os 10 .any (Rows.differenceOppositeSpec.pre6 enc Try.prog Try.f10 Rows.differenceOppositeRow.domain false) (Rows.differenceOppositeSpec.post enc Try.prog Try.f10 false true false false) := by
  refine returnsInHanded_of_change (C := Try.checked) ownNone started (by kernel_rfl) Try.func10
    (ChangeSpec.witness6 (enc := enc) (C := Try.checked) false ⟨#[], #[.int .u8 0, .slice none 0 0, .agg #[.int .i8 0, .int .i8 0, .int .i8 0, .int .i8 0]], []⟩ 8 (by kernel_rfl) (by kernel_rfl) (by kernel_rfl) (by kernel_rfl)) ?_
  intro W base args ds gs before hval0 hW hcnd _
  have hval : ∀ (j : Nat) t v, Try.f10.params[j]? = some t → args[j]? = some v → Value.okWide Try.prog W .any base t v := hval0
  have hW' := hW
  obtain ⟨p, q, hA0, hV, rfl, hfz, hnd⟩ := hW
  have hA : DataW.TrodAll enc Try.prog W 0 (fun _ => true) true Try.f10.params.toList args.toList ds p := hA0
  rw [Try.params10] at hA hval
  obtain ⟨v0, v1, v2, d0, d1, d2, p0, p1, p2, rfl, rfl, rfl, h0, h1, h2⟩ := trodAll_three hA
  obtain ⟨rfl, rfl⟩ := trodVars_none hV
  clear hA0 hval0
  simp only [List.append_nil] at hW'
  have hlt : ∀ x ∈ p0 ++ p1 ++ p2, x.block < W.heap.size := fun x hx => by simpa using hW'.lt x (by simpa using hx)
  have k0 := h0
  obtain ⟨m0, rfl⟩ := okWide_int Try.underlying5 (hval 0 5 v0 rfl rfl)
  obtain ⟨f0, g0⟩ := h0
  obtain ⟨n0, e0, _, hw0⟩ := DataW.trod_int Try.underlying5 g0
  simp [Value.cells] at e0
  subst e0
  have k1 := h1
  obtain ⟨a1, len1, cap1, rfl⟩ := okWide_slice Try.underlying56 (hval 1 56 v1 rfl rfl)
  obtain ⟨f1, g1⟩ := h1
  obtain ⟨A1, xs1, c1, e1, hT1, hG1, hl1, hm1⟩ := open_c g1
  simp [Value.cells] at e1
  obtain ⟨rfl, rfl, rfl⟩ := e1
  have k2 := h2
  obtain ⟨cs2, rfl, _⟩ := okWide_array Try.underlying61 (hval 2 61 v2 rfl rfl)
  obtain ⟨f2, g2⟩ := h2
  obtain ⟨y2, e2, hG2⟩ := code_of g2
  obtain rfl := agg_of (e2)
  refine (lawOpposite pc m0 xs1 a1 cap1 y2 W (bounds_u8 hw0) hG1 (Nat.le_trans hl1 hm1) hT1 hG2).mono fun e W' ⟨he, hg⟩ => ?_
  subst he
  exact ⟨_, rfl, _, _, _, [], p0 ++ p1 ++ p2, [], hW', trodAll_cons_mk (shut_bool Try.underlying4 _) trodAll_mk0, (by rw [List.append_assoc p0 p1 p2]; exact trodAll_mk3 (Below.trod laidOut (by kernel_rfl) (of_decide_eq_true (by kernel_rfl)) k0 hg (fun x hx => hlt x (List.mem_append_left _ (List.mem_append_left _ hx)))) (Below.trod laidOut (by kernel_rfl) (of_decide_eq_true (by kernel_rfl)) k1 hg (fun x hx => hlt x (List.mem_append_left _ (List.mem_append_right _ hx)))) (Below.trod laidOut (by kernel_rfl) (of_decide_eq_true (by kernel_rfl)) k2 hg (fun x hx => hlt x (List.mem_append_right _ hx)))), rfl, hg.frame _, fun h => by cases h⟩

theorem over : Rows.differenceOppositeRow.holds Try.pinned (OpenSpec.ofChange Rows.differenceOppositeSpec) :=
  OpenClaim.holds_of_wide 10 Try.f10 rfl rfl rfl rfl rfl rfl rfl ⟨rfl, rfl, rfl, rfl, rfl⟩ rfl rfl rfl rfl rfl (by kernel_rfl) Try.func10 (by kernel_rfl)
    (of_decide_eq_true (by kernel_rfl)) (by unfold Func.isWrapper; first | (rw [if_pos (by decide +kernel)]; kernel_rfl) | (rw [if_neg (by decide +kernel)]; exact ⟨rfl, rfl⟩))
    (fun os started H enc _ => lifted os started H enc)

theorem proved : Rows.DifferenceOppositeSaid := over

end Go.Proofs.Ytcmibhechhcpiaa.differenceOpposite
