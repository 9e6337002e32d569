/-
  DifferenceImplies: for every number, all tests and every test the law returns true. No condition.
-/
import Derived.Test.YtcmibhechhcpiaaDLem
import Derived.Test.YtcmibhechhcpiaaDProg
import Derived.Test.YtcmibhechhcpiaaChecked
import Derived.Test.YtcmibhechhcpiaaRows
namespace Go.Proofs.Ytcmibhechhcpiaa
open Go.RowKit

set_option maxRecDepth 100000 in
set_option maxHeartbeats 4000000 in
theorem lawImplies (hp : PC) (n : Int) (xs : List Tst) (A : Option Addr) (c : Nat) (x : Tst) (w : World) (hn : I64 n) (h64 : ∀ x ∈ xs, T64 x) (hl : xs.length ≤ maxLen) (hA : Tsts w w.heap.size A xs) (hx : T64 x) :
    Calls Try.prog 7 #[.int .i64 n, .slice A xs.length c, tval x] w fun e w' => e = .returned (.bool true) ∧ Below w.heap.size w w' := by
  have HA := Lib.hid hA
  have H64 := Lib.hid h64
  unfold maxLen at hl
  clear hA h64
  obtain ⟨k, lv, la, rv, ra⟩ := x
  by_cases h45 : 45 < xs.length
  · clear hn hx
    go_enter Try.func7, Try.ntmps7
    have HB0 := Lib.hid (fun (o : Obj) => (Below.refl w.heap.size w).alloc (Nat.le_refl _) o)
    go_wp2_with fail
    refine (awake_any hp _).mono ?_
    rintro e w1 ⟨rfl, hb1⟩
    have HB1 := Lib.hid ((HB0.out _).trans (hb1.mono (by simp)))
    clear hb1
    go_wp2_with fail
    refine (awake_any hp _).mono ?_
    rintro e w2 ⟨rfl, hb2⟩
    go_wp2_with fail
    go_ret
    exact ⟨rfl, HB1.out.trans (hb2.mono HB1.out.size)⟩
  · have HBX : Hid (∀ u, Below (w.heap.size + 1) (w.alloc (.cells #[.int .i64 k, .int .i64 lv, .int .i64 la, .int .i64 rv, .int .i64 ra] 32 (0, 0))) u → u.cell? ⟨w.heap.size, 0, none⟩ = some (.int .i64 k) ∧ u.cell? ⟨w.heap.size, 1, none⟩ = some (.int .i64 lv) ∧ u.cell? ⟨w.heap.size, 2, none⟩ = some (.int .i64 la) ∧ u.cell? ⟨w.heap.size, 3, none⟩ = some (.int .i64 rv) ∧ u.cell? ⟨w.heap.size, 4, none⟩ = some (.int .i64 ra)) := Lib.hid fun u hu =>
      ⟨(hu.cell (p := ⟨w.heap.size, 0, none⟩) (by simp)).trans (by simp), (hu.cell (p := ⟨w.heap.size, 1, none⟩) (by simp)).trans (by simp), (hu.cell (p := ⟨w.heap.size, 2, none⟩) (by simp)).trans (by simp), (hu.cell (p := ⟨w.heap.size, 3, none⟩) (by simp)).trans (by simp), (hu.cell (p := ⟨w.heap.size, 4, none⟩) (by simp)).trans (by simp)⟩
    go_enter Try.func7, Try.ntmps7
    have HB0 := Lib.hid (fun (o : Obj) => (Below.refl w.heap.size w).alloc (Nat.le_refl _) o)
    go_wp2_with fail
    refine (awake_any hp _).mono ?_
    rintro e w1 ⟨rfl, hb1⟩
    have hb1' := below_one hb1
    have hsz : w.heap.size < w1.heap.size := by have := hb1'.size; simp at this; omega
    have HA1 := Lib.hid (Reads.up HA.out ((HB0.out _).trans (hb1'.mono (by omega))))
    have HB1 := Lib.hid ((HB0.out _).trans (hb1'.mono (by omega)))
    have HB1' := Lib.hid hb1'
    have HCELL : Hid (∀ u, Below w1.heap.size w1 u → u.cell? ⟨w.heap.size, 0, none⟩ = some (.int .i64 k) ∧ u.cell? ⟨w.heap.size, 1, none⟩ = some (.int .i64 lv) ∧ u.cell? ⟨w.heap.size, 2, none⟩ = some (.int .i64 la) ∧ u.cell? ⟨w.heap.size, 3, none⟩ = some (.int .i64 rv) ∧ u.cell? ⟨w.heap.size, 4, none⟩ = some (.int .i64 ra) ∧ Below w1.heap.size w1 u) := Lib.hid fun u hu => by
      obtain ⟨a0, a1, a2, a3, a4⟩ := HBX.out u (HB1'.out.trans (hu.mono (by omega)))
      exact ⟨a0, a1, a2, a3, a4, hu⟩
    have HCL : Hid (∀ u, u.cell? ⟨w.heap.size, 0, none⟩ = some (.int .i64 k) ∧ u.cell? ⟨w.heap.size, 1, none⟩ = some (.int .i64 lv) ∧ u.cell? ⟨w.heap.size, 2, none⟩ = some (.int .i64 la) ∧ u.cell? ⟨w.heap.size, 3, none⟩ = some (.int .i64 rv) ∧ u.cell? ⟨w.heap.size, 4, none⟩ = some (.int .i64 ra) ∧ Below w1.heap.size w1 u → Calls Try.prog 14 #[.slice A xs.length c] u fun e w' => ∃ A' c', e = .returned (.slice A' xs.length c') ∧ Tsts w' w'.heap.size A' xs ∧ w'.cell? ⟨w.heap.size, 0, none⟩ = some (.int .i64 k) ∧ w'.cell? ⟨w.heap.size, 1, none⟩ = some (.int .i64 lv) ∧ w'.cell? ⟨w.heap.size, 2, none⟩ = some (.int .i64 la) ∧ w'.cell? ⟨w.heap.size, 3, none⟩ = some (.int .i64 rv) ∧ w'.cell? ⟨w.heap.size, 4, none⟩ = some (.int .i64 ra) ∧ Below w1.heap.size w1 w') := Lib.hid fun u hu => by
      obtain ⟨_, _, _, _, _, hu⟩ := hu
      refine (cloneT_any xs _ _ _ _ (by omega) (Reads.up HA1.out hu)).mono ?_
      rintro e w' ⟨A', c', rfl, h1, h2⟩
      exact ⟨A', c', rfl, h1, HCELL.out w' (hu.trans (h2.mono hu.size))⟩
    have HIM : Hid (∀ A' c' u, Tsts u u.heap.size A' xs → u.cell? ⟨w.heap.size, 0, none⟩ = some (.int .i64 k) ∧ u.cell? ⟨w.heap.size, 1, none⟩ = some (.int .i64 lv) ∧ u.cell? ⟨w.heap.size, 2, none⟩ = some (.int .i64 la) ∧ u.cell? ⟨w.heap.size, 3, none⟩ = some (.int .i64 rv) ∧ u.cell? ⟨w.heap.size, 4, none⟩ = some (.int .i64 ra) ∧ Below w1.heap.size w1 u → Calls Try.prog 32 #[.int .i64 n, .slice A' xs.length c', .agg #[.int .i64 k, .int .i64 lv, .int .i64 la, .int .i64 rv, .int .i64 ra]] u fun e w' => ∃ b, ImpIs n xs ⟨k, lv, la, rv, ra⟩ b ∧ e = .returned (.tuple #[.bool b, .int .i64 (impE n xs ⟨k, lv, la, rv, ra⟩)]) ∧ w'.cell? ⟨w.heap.size, 0, none⟩ = some (.int .i64 k) ∧ w'.cell? ⟨w.heap.size, 1, none⟩ = some (.int .i64 lv) ∧ w'.cell? ⟨w.heap.size, 2, none⟩ = some (.int .i64 la) ∧ w'.cell? ⟨w.heap.size, 3, none⟩ = some (.int .i64 rv) ∧ w'.cell? ⟨w.heap.size, 4, none⟩ = some (.int .i64 ra) ∧ Below w1.heap.size w1 w') := Lib.hid fun A' c' u hT hu => by
      obtain ⟨_, _, _, _, _, hu⟩ := hu
      refine (hp.imp n xs A' c' ⟨k, lv, la, rv, ra⟩ u hn H64.out hx (by omega) hT).mono ?_
      rintro e w' ⟨b, h1, rfl, h2⟩
      exact ⟨b, h1, rfl, HCELL.out w' (hu.trans (h2.mono hu.size))⟩
    have HIR := Lib.hid (fun u hT => impRf n xs A c ⟨k, lv, la, rv, ra⟩ u hn H64.out hx (by omega) hT)
    have hS := HCELL.out w1 (Below.refl _ _)
    obtain ⟨p0, p1, p2, p3, p4, p5⟩ := hS
    clear hb1 hb1' HBX HB1' HA HB0
    go_wp2_with fail
    go_region_held3 (fun u => u.cell? ⟨w.heap.size, 0, none⟩ = some (.int .i64 k) ∧ u.cell? ⟨w.heap.size, 1, none⟩ = some (.int .i64 lv) ∧ u.cell? ⟨w.heap.size, 2, none⟩ = some (.int .i64 la) ∧ u.cell? ⟨w.heap.size, 3, none⟩ = some (.int .i64 rv) ∧ u.cell? ⟨w.heap.size, 4, none⟩ = some (.int .i64 ra) ∧ Below w1.heap.size w1 u) (first | assumption | (exact ⟨by assumption, by assumption, by assumption, by assumption, by assumption, Below.drew (by assumption)⟩))
      (first
        | (with_reducible refine (HCL.out _ (by assumption)).mono ?_; rintro e w2 ⟨A2, c2, rfl, hT2, hs2⟩)
        | (with_reducible refine (HIM.out _ _ _ (by assumption) (by assumption)).mono ?_; rintro e w3 ⟨b1, hI1, rfl, hs3⟩))
    obtain ⟨a0, a1, a2, a3, a4, hu⟩ := hs3
    have HB3 := Lib.hid (HB1.out.trans (hu.mono HB1.out.size))
    have HA3 := Lib.hid (Reads.up HA1.out hu)
    clear hT2 hs2 p0 p1 p2 p3 p4 p5 HCL HIM HCELL HA1 hu
    have HI1 := Lib.hid hI1
    clear hI1
    go_wp2_with fail
    refine (HIR.out _ HA3.out).mono ?_
    rintro e w4 ⟨b2, hI2, rfl, hb4⟩
    obtain rfl := impIs_unique HI1.out hI2
    have HB4 := Lib.hid (HB3.out.trans (hb4.mono HB3.out.size))
    clear hI2 hb4 a0 a1 a2 a3 a4
    generalize impE n xs ⟨k, lv, la, rv, ra⟩ = e1
    have tb : (b1 == b1) = true := by simp
    go_wp2_with fail
    go_ret
    exact ⟨rfl, HB4.out⟩

end Go.Proofs.Ytcmibhechhcpiaa
namespace Go.Proofs.Ytcmibhechhcpiaa.differenceImplies
open Go.ChangeShapes Go.WideShapes Go.ChangeAt Go.RowKit Go.Deep

set_option maxRecDepth 100000 in
theorem lifted (os : Os) (started : os.Started) (H : Type) (enc : TypeId × Value → H) :
    ReturnsInHanded {} Try.checked os 7 .any (Rows.differenceImpliesSpec.pre6 enc Try.prog Try.f7 Rows.differenceImpliesRow.domain false) (Rows.differenceImpliesSpec.post enc Try.prog Try.f7 false true false false) := by
  refine returnsInHanded_of_change (C := Try.checked) ownNone started (by kernel_rfl) Try.func7
    (ChangeSpec.witness6 (enc := enc) (C := Try.checked) false ⟨#[], #[.int .i64 0, .slice none 0 0, .agg #[.int .i64 0, .int .i64 0, .int .i64 0, .int .i64 0, .int .i64 0]], []⟩ 8 (by kernel_rfl) (by kernel_rfl) (by kernel_rfl) (by kernel_rfl)) ?_
  intro W base args ds gs before hval0 hW hcnd _
  have hval : ∀ (j : Nat) t v, Try.f7.params[j]? = some t → args[j]? = some v → Value.okWide Try.prog W .any base t v := hval0
  have hW' := hW
  obtain ⟨p, q, hA0, hV, rfl, hfz, hnd⟩ := hW
  have hA : DataW.TrodAll enc Try.prog W 0 (fun _ => true) true Try.f7.params.toList args.toList ds p := hA0
  rw [Try.params7] at hA hval
  obtain ⟨v0, v1, v2, d0, d1, d2, p0, p1, p2, rfl, rfl, rfl, h0, h1, h2⟩ := trodAll_three hA
  obtain ⟨rfl, rfl⟩ := trodVars_none hV
  clear hA0 hval0
  simp only [List.append_nil] at hW'
  have hlt : ∀ x ∈ p0 ++ p1 ++ p2, x.block < W.heap.size := fun x hx => by simpa using hW'.lt x (by simpa using hx)
  have k0 := h0
  obtain ⟨m0, rfl⟩ := okWide_int Try.underlying3 (hval 0 3 v0 rfl rfl)
  obtain ⟨f0, g0⟩ := h0
  obtain ⟨n0, e0, _, hw0⟩ := DataW.trod_int Try.underlying3 g0
  simp [Value.cells] at e0
  subst e0
  have k1 := h1
  obtain ⟨a1, len1, cap1, rfl⟩ := okWide_slice Try.underlying22 (hval 1 22 v1 rfl rfl)
  obtain ⟨f1, g1⟩ := h1
  obtain ⟨A1, xs1, c1, e1, hT1, hG1, hl1, hm1⟩ := open_t g1
  simp [Value.cells] at e1
  obtain ⟨rfl, rfl, rfl⟩ := e1
  have k2 := h2
  obtain ⟨cs2, rfl, _⟩ := okWide_struct Try.underlying32 (hval 2 32 v2 rfl rfl)
  obtain ⟨f2, g2⟩ := h2
  obtain ⟨y2, e2, hG2⟩ := tst_of g2
  obtain rfl := agg_of (e2)
  refine (lawImplies pc m0 xs1 a1 cap1 y2 W (bounds_i64 hw0) hG1 (Nat.le_trans hl1 hm1) hT1 hG2).mono fun e W' ⟨he, hg⟩ => ?_
  subst he
  exact ⟨_, rfl, _, _, _, [], p0 ++ p1 ++ p2, [], hW', trodAll_cons_mk (shut_bool Try.underlying4 _) trodAll_mk0, (by rw [List.append_assoc p0 p1 p2]; exact trodAll_mk3 (Below.trod laidOut (by kernel_rfl) (of_decide_eq_true (by kernel_rfl)) k0 hg (fun x hx => hlt x (List.mem_append_left _ (List.mem_append_left _ hx)))) (Below.trod laidOut (by kernel_rfl) (of_decide_eq_true (by kernel_rfl)) k1 hg (fun x hx => hlt x (List.mem_append_left _ (List.mem_append_right _ hx)))) (Below.trod laidOut (by kernel_rfl) (of_decide_eq_true (by kernel_rfl)) k2 hg (fun x hx => hlt x (List.mem_append_right _ hx)))), rfl, hg.frame _, fun h => by cases h⟩

theorem over : Rows.differenceImpliesRow.holds Try.pinned (OpenSpec.ofChange Rows.differenceImpliesSpec) :=
  OpenClaim.holds_of_wide 7 Try.f7 rfl rfl rfl rfl rfl rfl rfl ⟨rfl, rfl, rfl, rfl, rfl⟩ rfl rfl rfl rfl rfl (by kernel_rfl) Try.func7 (by kernel_rfl)
    (of_decide_eq_true (by kernel_rfl)) (by unfold Func.isWrapper; first | (rw [if_pos (by decide +kernel)]; kernel_rfl) | (rw [if_neg (by decide +kernel)]; exact ⟨rfl, rfl⟩))
    (fun os started H enc _ => lifted os started H enc)

theorem proved : Rows.DifferenceImpliesSaid := over

end Go.Proofs.Ytcmibhechhcpiaa.differenceImplies
