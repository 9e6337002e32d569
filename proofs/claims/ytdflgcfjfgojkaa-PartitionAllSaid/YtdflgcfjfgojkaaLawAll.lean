/-
  PartitionAll: for every int the law returns true. No condition.
-/
import Derived.Test.YtdflgcfjfgojkaaCmp
import Derived.Test.YtdflgcfjfgojkaaOpen
namespace Go.Proofs.Ytdflgcfjfgojkaa
open Go.RowKit

theorem allP_err (n : Int) (w : World) (h : n < 0 ∨ 7 < n) : Calls Try.prog 26 #[.int .i64 n] w fun e w' => ∃ v, e = .returned (.tuple #[v, .int .i64 (sevenS n)]) ∧ OwnL w' w.heap.size v [] ∧ Below w.heap.size w w' := by
  refine (all_err n w h).mono ?_
  rintro e w' ⟨rfl, rfl⟩
  exact ⟨_, rfl, OwnL.nil _ _, Below.refl _ _⟩
theorem allR_err (n : Int) (w : World) (h : n < 0 ∨ 7 < n) : Calls Try.prog 27 #[.int .i64 n] w fun e w' => ∃ v, e = .returned (.tuple #[v, .int .i64 (sevenS n)]) ∧ OwnL w' w.heap.size v [] ∧ Below w.heap.size w w' := by
  refine (refAll_err n w h).mono ?_
  rintro e w' ⟨rfl, rfl⟩
  exact ⟨_, rfl, OwnL.nil _ _, Below.refl _ _⟩

theorem valid_own (us : List Nat) (A : Option Addr) (c B : Nat) (w : World) (hv : V us) (h80 : us.length ≤ 80) (hT : Ints w B A (toI us)) :
    Calls Try.prog 16 #[.slice A us.length c] w fun e w' => e = .returned (.bool true) ∧ w = w' := by
  have := valid_any (toI us) A c B w (by rw [toI_length]; unfold maxLen; omega) hT
  rw [check_ok hv h80, toI_length] at this
  exact this

theorem table_cell (n : Nat) (hn : n < 8) (W : World) :
    (W.alloc (.cells #[.int .i64 1, .int .i64 1, .int .i64 2, .int .i64 5, .int .i64 15, .int .i64 52, .int .i64 203, .int .i64 877] 3)).cell? ⟨W.heap.size, n, none⟩ = some (.int .i64 (([1, 1, 2, 5, 15, 52, 203, 877].getD n 0 : Nat) : Int)) := by
  match n, hn with
  | 0, _ => simp
  | 1, _ => simp
  | 2, _ => simp
  | 3, _ => simp
  | 4, _ => simp
  | 5, _ => simp
  | 6, _ => simp
  | 7, _ => simp

set_option maxHeartbeats 2000000 in
theorem lawAll_err (n : Int) (w : World) (h : n < 0 ∨ 7 < n) :
    Calls Try.prog 5 #[.int .i64 n] w fun e w' => e = .returned (.bool true) ∧ Below w.heap.size w w' := by
  have HP := Lib.hid (fun u => allP_err n u h)
  have HR := Lib.hid (fun u => allR_err n u h)
  have t : ((sevenS n : Int) != 0) = true := by
    rcases h with h | h
    · rw [seven_low h]; rfl
    · rw [seven_high h]; rfl
  clear h
  generalize sevenS n = m at HP HR t
  go_enter Try.func5, Try.ntmps5
  go_wp2_with fail
  refine (awake_any _).mono ?_
  rintro e w1 ⟨rfl, hb1⟩
  have HB1 := Lib.hid hb1
  clear hb1
  go_wp2_with fail
  refine (HP.out _).mono ?_
  rintro e w2 ⟨v2, rfl, ho2, hb2⟩
  have HO2 := Lib.hid ho2
  have HB2 := Lib.hid (HB1.out.trans (hb2.mono HB1.out.size))
  clear ho2 hb2 HB1
  go_wp2_with fail
  refine (HR.out _).mono ?_
  rintro e w3 ⟨v3, rfl, ho3, hb3⟩
  have HO2b := Lib.hid (HO2.out.below hb3 (Nat.le_refl _))
  have HO3 := Lib.hid ho3
  have HB3 := Lib.hid (HB2.out.trans (hb3.mono HB2.out.size))
  clear ho3 hb3 HB2 HO2
  go_wp2_with fail
  refine (sameOwnL [] _ _ _ _ _ (by simp) (by simp) HO2b.out HO3.out).mono ?_
  rintro e w4 ⟨rfl, hb4⟩
  have HO2c := Lib.hid (HO2b.out.below hb4 (Nat.le_refl _))
  have HO3c := Lib.hid (HO3.out.below hb4 (Nat.le_refl _))
  have HB4 := Lib.hid (HB3.out.trans (hb4.mono HB3.out.size))
  clear hb4 HB3 HO2b HO3
  go_wp2_with fail
  refine (sameOwnL [] _ _ _ _ _ (by simp) (by simp) HO2c.out HO3c.out).mono ?_
  rintro e w5 ⟨rfl, hb5⟩
  go_wp2_with fail
  go_ret
  exact ⟨rfl, HB4.out.trans (hb5.mono HB4.out.size)⟩

set_option maxRecDepth 100000 in
set_option maxHeartbeats 4000000 in
theorem lawAll_ok (n : Nat) (w : World) (h7 : n ≤ 7) :
    Calls Try.prog 5 #[.int .i64 n] w fun e w' => e = .returned (.bool true) ∧ Below w.heap.size w w' := by
  have HP := Lib.hid (fun u => all_ok n u h7)
  have HR := Lib.hid (fun u => refAll_ok n u h7)
  obtain ⟨f1, f2, f3⟩ := allS_facts2 h7
  have HL1 := Lib.hid (show (allS n).length ≤ 1000000 by have := (allS_facts n h7).1; omega)
  have HL2 := Lib.hid (show ∀ x ∈ allS n, x.length ≤ 1000000 from fun x hx => by rw [(allS_facts n h7).2 x hx]; omega)
  have HT := Lib.hid (fun W => table_cell n (by omega) W)
  rw [← f3] at HT
  have F1 := Lib.hid f1
  have F2 := Lib.hid f2
  have hln := (allS_facts n h7).1
  clear f1 f2 f3
  generalize allS n = all at HP HR HL1 HL2 HT F1 F2 hln
  go_enter Try.func5, Try.ntmps5
  go_wp2_with fail
  refine (awake_any _).mono ?_
  rintro e w1 ⟨rfl, hb1⟩
  have HB1 := Lib.hid hb1
  clear hb1
  go_wp2_with fail
  refine (HP.out _).mono ?_
  rintro e w2 ⟨v2, rfl, ho2, hb2⟩
  obtain ⟨ao, cap, rfl⟩ := ho2.slice
  have HO2 := Lib.hid ho2
  have HB2 := Lib.hid (HB1.out.trans (hb2.mono HB1.out.size))
  clear ho2 hb2 HB1
  go_wp2_with fail
  refine (HR.out _).mono ?_
  rintro e w3 ⟨v3, rfl, ho3, hb3⟩
  have HO2b := Lib.hid (HO2.out.below hb3 (Nat.le_refl _))
  have HO3 := Lib.hid ho3
  have HB3 := Lib.hid (HB2.out.trans (hb3.mono HB2.out.size))
  clear ho3 hb3 HB2 HO2
  go_wp2_with fail
  refine (sameOwnL all _ _ _ _ _ HL1.out HL2.out HO2b.out HO3.out).mono ?_
  rintro e w4 ⟨rfl, hb4⟩
  have HO4 := Lib.hid (HO2b.out.below hb4 (Nat.le_refl _))
  have HB4 := Lib.hid (HB3.out.trans (hb4.mono HB3.out.size))
  clear hb4 HB3 HO2b HO3
  go_wp2_with fail
  go_loopw [7, 8, 44] (fun _ _ x wr => ∃ k : Nat, k ≤ all.length ∧ x = .int .i64 k ∧ wr = w4) (fun _ _ x _ => all.length - (intOf x).toNat)
  case atStart => exact ⟨0, Nat.zero_le _, rfl, rfl⟩
  case round =>
    obtain ⟨k, hk, rfl, rfl⟩ := hrel
    by_cases hlt : k < all.length
    · obtain ⟨b, cp, u, e1, hb, ck, hu⟩ := HO4.out.at hlt
      simp only [Value.slice.injEq, true_and] at e1
      obtain ⟨rfl, rfl⟩ := e1
      obtain ⟨hv, hpl⟩ := F1.out k hlt
      obtain ⟨A, c, rfl, hT⟩ := hu.ints
      have HV := Lib.hid (valid_own _ A c _ wr hv (by omega) hT)
      have HTT := Lib.hid hT
      have HPL := Lib.hid hpl
      have hpl1 : (all.getD k []).length ≤ n := by omega
      have hpl2 : n ≤ (all.getD k []).length := by omega
      have t1 : (((all.getD k []).length : Int) != (n : Int)) = false := by rw [hpl]; simp
      clear hu hv hT hpl
      by_cases hk0 : k = 0
      · subst hk0
        generalize all.getD 0 [] = p at ck HV HTT HPL hpl1 hpl2 t1
        go_wp2_with fail
        refine HV.out.mono ?_
        rintro e w' ⟨rfl, rfl⟩
        go_wp2_with fail
        go_roundw
        case rel => exact ⟨1, by omega, by go_num, trivial⟩
        case measure => simp [intOf]; omega
      · obtain ⟨j, rfl⟩ : ∃ j, k = j + 1 := ⟨k - 1, by omega⟩
        obtain ⟨b', cp', u', e2, hb', cj, hu'⟩ := HO4.out.at (k := j) (by omega)
        simp only [Value.slice.injEq, Option.some.injEq, Addr.mk.injEq, and_true, true_and] at e2
        obtain ⟨rfl, rfl⟩ := e2
        obtain ⟨A', c', rfl, hT'⟩ := hu'.ints
        obtain ⟨_, hpl'⟩ := F1.out j (by omega)
        have HCM := Lib.hid (compare_less (all.getD j []) (all.getD (j + 1) []) A' A c' c _ _ wr (by rw [hpl', HPL.out]) (by omega) (F2.out j hlt) hT' HTT.out)
        clear hu' hT' hpl' hk0
        generalize all.getD (j + 1) [] = p at ck HV HTT HPL hpl1 hpl2 t1 HCM
        generalize all.getD j [] = p' at cj HCM
        go_wp2_with fail
        refine HV.out.mono ?_
        rintro e w' ⟨rfl, rfl⟩
        go_wp2_with fail
        refine HCM.out.mono ?_
        rintro e w' ⟨rfl, rfl⟩
        go_wp2_with fail
        go_roundw
        case rel => exact ⟨j + 1 + 1, by omega, by go_num, trivial⟩
        case measure => simp [intOf]; omega
    · have ht := HT.out wr
      have tt : ((all.length : Int) == (all.length : Int)) = true := by simp
      go_wp2_with fail
      go_ret
      exact ⟨rfl, HB4.out.alloc HB4.out.size _⟩

theorem lawAll (n : Int) (w : World) (_h : (Lit.int .i64 n).wf = true) :
    Calls Try.prog 5 #[.int .i64 n] w fun e w' => e = .returned (.bool true) ∧ Below w.heap.size w w' := by
  by_cases h : n < 0 ∨ 7 < n
  · exact lawAll_err n w h
  · obtain ⟨m, rfl⟩ : ∃ m : Nat, n = m := ⟨n.toNat, by omega⟩
    exact lawAll_ok m w (by omega)

end Go.Proofs.Ytdflgcfjfgojkaa
namespace Go.Proofs.Ytdflgcfjfgojkaa.partitionAll
open Go.ChangeShapes Go.WideShapes Go.ChangeAt Go.RowKit

set_option maxRecDepth 100000 in
theorem lifted (os : Os) (started : os.Started) (H : Type) (enc : TypeId × Value → H) :
    ReturnsInHanded {} Try.checked os 5 .any (Rows.partitionAllSpec.pre6 enc Try.prog Try.f5 Rows.partitionAllRow.domain false) (Rows.partitionAllSpec.post enc Try.prog Try.f5 false true false false) := by
  refine returnsInHanded_of_change (C := Try.checked) ownNone started (by kernel_rfl) Try.func5
    (ChangeSpec.witness6 (enc := enc) (C := Try.checked) false ⟨#[], #[.int .i64 0], []⟩ 8 (by kernel_rfl) (by kernel_rfl) (by kernel_rfl) (by kernel_rfl)) ?_
  intro W base args ds gs before hval0 hW hcnd _
  have hval : ∀ (j : Nat) t v, Try.f5.params[j]? = some t → args[j]? = some v → Value.okWide Try.prog W .any base t v := hval0
  have hW' := hW
  obtain ⟨p, q, hA0, hV, rfl, hfz, hnd⟩ := hW
  have hA : DataW.TrodAll enc Try.prog W 0 (fun _ => true) true Try.f5.params.toList args.toList ds p := hA0
  rw [Try.params5] at hA hval
  obtain ⟨v0, d0, rfl, rfl, h0⟩ := trodAll_one hA
  obtain ⟨rfl, rfl⟩ := trodVars_none hV
  clear hA0 hval0
  simp only [List.append_nil] at hW'
  have hlt : ∀ x ∈ p, x.block < W.heap.size := fun x hx => by simpa using hW'.lt x (by simpa using hx)
  have k0 := h0
  obtain ⟨m0, rfl⟩ := okWide_int Try.underlying3 (hval 0 3 v0 rfl rfl)
  obtain ⟨f0, g0⟩ := h0
  obtain ⟨n0, e0, _, hw0⟩ := DataW.trod_int Try.underlying3 g0
  simp [Value.cells] at e0
  subst e0
  refine (lawAll m0 W hw0).mono fun e W' ⟨he, hg⟩ => ?_
  subst he
  exact ⟨_, rfl, _, _, _, [], p, [], hW', trodAll_cons_mk (shut_bool Try.underlying4 _) trodAll_mk0, trodAll_mk1 (Below.trod laidOut (by kernel_rfl) (of_decide_eq_true (by kernel_rfl)) k0 hg (fun x hx => hlt x (hx))), rfl, hg.frame _, fun h => by cases h⟩

theorem over : Rows.partitionAllRow.holds Try.pinned (OpenSpec.ofChange Rows.partitionAllSpec) :=
  OpenClaim.holds_of_wide 5 Try.f5 rfl rfl rfl rfl rfl rfl rfl ⟨rfl, rfl, rfl, rfl, rfl⟩ rfl rfl rfl rfl rfl (by kernel_rfl) Try.func5 (by kernel_rfl)
    (of_decide_eq_true (by kernel_rfl)) (by unfold Func.isWrapper; first | (rw [if_pos (by decide +kernel)]; kernel_rfl) | (rw [if_neg (by decide +kernel)]; exact ⟨rfl, rfl⟩))
    (fun os started H enc _ => lifted os started H enc)

theorem proved : Rows.PartitionAllSaid := over

end Go.Proofs.Ytdflgcfjfgojkaa.partitionAll

