/-
  TokenSame: for every two slices of tokens the law returns true. No condition.
-/
import Derived.Test.YtgaiknigdgoaeaaSame
import Derived.Test.YtgaiknigdgoaeaaOpen
namespace Go.Proofs.Ytgaiknigdgoaeaa
open Go.RowKit

theorem own : ownKnob Try.prog.godebug = none := by kernel_rfl

theorem toks_up {w w' : World} {A : Option Addr} {ts : List Tok} (h : Toks w w.heap.size A ts) (hb : Below w.heap.size w w') : Toks w' w'.heap.size A ts := by
  rcases h.below hb with h | ⟨b, off, rfl, hlt, h⟩
  · exact .inl h
  · exact .inr ⟨b, off, rfl, by have := hb.size; omega, h⟩

set_option maxRecDepth 100000 in
set_option maxHeartbeats 2000000 in
theorem lawSame (xs ys : List Tok) (A A' : Option Addr) (c c' : Nat) (w : World) (hx : xs.length ≤ 4398046511104) (hy : ys.length ≤ 4398046511104) (tx : ∀ t ∈ xs, t.text.length ≤ reachBytes) (ty : ∀ t ∈ ys, t.text.length ≤ reachBytes)
    (hA : Toks w w.heap.size A xs) (hB : Toks w w.heap.size A' ys) :
    Calls Try.prog 7 #[.slice A xs.length c, .slice A' ys.length c'] w fun e w' => e = .returned (.bool true) ∧ Below w.heap.size w w' := by
  have HA := Lib.hid hA
  have HB := Lib.hid hB
  have F1 := Lib.hid (fun w h => few_any xs A c w hx tx h)
  have F2 := Lib.hid (fun w h => few_any ys A' c' w hy ty h)
  clear hA hB tx ty
  cases hfx : fewB xs with
  | false =>
    rw [hfx] at F1
    clear hfx
    go_enter Try.func7, Try.ntmps7
    go_wp2_with fail
    refine (awake_any _).mono ?_
    rintro e w1 ⟨rfl, hb1⟩
    have HA1 := Lib.hid (toks_up HA.out hb1)
    have HB1 := Lib.hid hb1
    clear hb1
    go_wp2_with fail
    refine (F1.out _ HA1.out).mono ?_
    rintro e w' ⟨rfl, rfl⟩
    go_wp2_with fail
    refine (awake_any _).mono ?_
    rintro e w2 ⟨rfl, hb2⟩
    go_wp2_with fail
    go_ret
    exact ⟨rfl, HB1.out.trans (hb2.mono HB1.out.size)⟩
  | true =>
    rw [hfx] at F1
    cases hfy : fewB ys with
    | false =>
      rw [hfy] at F2
      clear hfx hfy
      go_enter Try.func7, Try.ntmps7
      go_wp2_with fail
      refine (awake_any _).mono ?_
      rintro e w1 ⟨rfl, hb1⟩
      have HA1 := Lib.hid (toks_up HA.out hb1)
      have HA2 := Lib.hid (toks_up HB.out hb1)
      have HB1 := Lib.hid hb1
      clear hb1
      go_wp2_with fail
      refine (F1.out _ HA1.out).mono ?_
      rintro e w' ⟨rfl, rfl⟩
      go_wp2_with fail
      refine (F2.out _ HA2.out).mono ?_
      rintro e w' ⟨rfl, rfl⟩
      go_wp2_with fail
      refine (awake_any _).mono ?_
      rintro e w2 ⟨rfl, hb2⟩
      go_wp2_with fail
      go_ret
      exact ⟨rfl, HB1.out.trans (hb2.mono HB1.out.size)⟩
    | true =>
      rw [hfy] at F2
      have l1 := (few_text hfx).1
      have l2 := (few_text hfy).1
      have m1 : xs.length ≤ maxLen := by unfold maxLen; omega
      have m2 : ys.length ≤ maxLen := by unfold maxLen; omega
      have M1 := Lib.hid m1
      have M2 := Lib.hid m2
      have HC := Lib.hid (sameR_comm ys xs)
      clear hfx hfy m1 m2
      go_enter Try.func7, Try.ntmps7
      go_wp2_with fail
      refine (awake_any _).mono ?_
      rintro e w1 ⟨rfl, hb1⟩
      have HA1 := Lib.hid (toks_up HA.out hb1)
      have HA2 := Lib.hid (toks_up HB.out hb1)
      have HB1 := Lib.hid hb1
      clear hb1
      go_wp2_with fail
      refine (F1.out _ HA1.out).mono ?_
      rintro e w' ⟨rfl, rfl⟩
      go_wp2_with fail
      refine (F2.out _ HA2.out).mono ?_
      rintro e w' ⟨rfl, rfl⟩
      go_wp2_with fail
      refine (same_any xs ys A A' c c' _ M1.out M2.out HA1.out HA2.out).mono ?_
      rintro e w2 ⟨rfl, hb2⟩
      have HA1b := Lib.hid (toks_up HA1.out hb2)
      have HA2b := Lib.hid (toks_up HA2.out hb2)
      have HB2 := Lib.hid (HB1.out.trans (hb2.mono HB1.out.size))
      clear hb2
      go_wp2_with fail
      refine (refSame_any xs ys A A' c c' _ M1.out M2.out HA1b.out HA2b.out).mono ?_
      rintro e w3 ⟨rfl, hb3⟩
      have HA1c := Lib.hid (toks_up HA1b.out hb3)
      have HA2c := Lib.hid (toks_up HA2b.out hb3)
      have HB3 := Lib.hid (HB2.out.trans (hb3.mono HB2.out.size))
      clear hb3
      generalize hsm : sameR xs ys = sm at HC ⊢
      have HSM := Lib.hid hsm
      clear hsm
      cases sm with
      | true =>
        go_wp2_with fail
        refine (same_any ys xs A' A c' c _ M2.out M1.out HA2c.out HA1c.out).mono ?_
        rintro e w4 ⟨rfl, hb4⟩
        rw [HC.out]
        have HA1d := Lib.hid (toks_up HA1c.out hb4)
        have HA2d := Lib.hid (toks_up HA2c.out hb4)
        have HB4 := Lib.hid (HB3.out.trans (hb4.mono HB3.out.size))
        clear hb4
        go_wp2_with fail
        refine (same_any xs ys A A' c c' _ M1.out M2.out HA1d.out HA2d.out).mono ?_
        rintro e w5 ⟨rfl, hb5⟩
        rw [HSM.out]
        have HA1e := Lib.hid (toks_up HA1d.out hb5)
        have HB5 := Lib.hid (HB4.out.trans (hb5.mono HB4.out.size))
        clear hb5
        go_wp2_with fail
        refine (clone_any xs A _ c _ (by omega) HA1e.out).mono ?_
        rintro e w6 ⟨A2, c2, rfl, hT2, hb6⟩
        have HA1f := Lib.hid (toks_up HA1e.out hb6)
        have HT2 := Lib.hid hT2
        have HB6 := Lib.hid (HB5.out.trans (hb6.mono HB5.out.size))
        clear hb6 hT2
        go_wp2_with fail
        refine (same_any xs xs A A2 c c2 _ M1.out M1.out HA1f.out HT2.out).mono ?_
        rintro e w7 ⟨rfl, hb7⟩
        rw [sameR_refl]
        go_wp2_with fail
        go_ret
        exact ⟨rfl, HB6.out.trans (hb7.mono HB6.out.size)⟩
      | false =>
        go_wp2_with fail
        refine (same_any ys xs A' A c' c _ M2.out M1.out HA2c.out HA1c.out).mono ?_
        rintro e w4 ⟨rfl, hb4⟩
        rw [HC.out]
        have HA1d := Lib.hid (toks_up HA1c.out hb4)
        have HA2d := Lib.hid (toks_up HA2c.out hb4)
        have HB4 := Lib.hid (HB3.out.trans (hb4.mono HB3.out.size))
        clear hb4
        go_wp2_with fail
        refine (same_any xs ys A A' c c' _ M1.out M2.out HA1d.out HA2d.out).mono ?_
        rintro e w5 ⟨rfl, hb5⟩
        rw [HSM.out]
        have HA1e := Lib.hid (toks_up HA1d.out hb5)
        have HB5 := Lib.hid (HB4.out.trans (hb5.mono HB4.out.size))
        clear hb5
        go_wp2_with fail
        refine (clone_any xs A _ c _ (by omega) HA1e.out).mono ?_
        rintro e w6 ⟨A2, c2, rfl, hT2, hb6⟩
        have HA1f := Lib.hid (toks_up HA1e.out hb6)
        have HT2 := Lib.hid hT2
        have HB6 := Lib.hid (HB5.out.trans (hb6.mono HB5.out.size))
        clear hb6 hT2
        go_wp2_with fail
        refine (same_any xs xs A A2 c c2 _ M1.out M1.out HA1f.out HT2.out).mono ?_
        rintro e w7 ⟨rfl, hb7⟩
        rw [sameR_refl]
        go_wp2_with fail
        go_ret
        exact ⟨rfl, HB6.out.trans (hb7.mono HB6.out.size)⟩

end Go.Proofs.Ytgaiknigdgoaeaa
namespace Go.Proofs.Ytgaiknigdgoaeaa.tokenSame
open Go.ChangeShapes Go.WideShapes Go.ChangeAt Go.RowKit

set_option maxRecDepth 100000 in
theorem lifted (os : Os) (started : os.Started) (H : Type) (enc : TypeId × Value → H) :
    ReturnsInHanded {} Try.checked os 7 .any (Rows.tokenSameSpec.pre6 enc Try.prog Try.f7 Rows.tokenSameRow.domain false) (Rows.tokenSameSpec.post enc Try.prog Try.f7 false true false false) := by
  refine returnsInHanded_of_change_sized (C := Try.checked) own started (by kernel_rfl) Try.func7
    (ChangeSpec.witness6 (enc := enc) (C := Try.checked) false ⟨#[], #[.slice none 0 0, .slice none 0 0], []⟩ 8 (by kernel_rfl) (by kernel_rfl) (by kernel_rfl) (by kernel_rfl)) ?_
  intro W base args ds gs before hval0 hW hcnd hsz0 _
  have hsz : (DataW.weightsEach Try.prog (Try.f7.params.toList ++ Rows.tokenSameSpec.plain.varTypes Try.prog) (ds ++ gs)).all (· ≤ reachBytes) = true := hsz0
  clear hsz0
  have hval : ∀ (j : Nat) t v, Try.f7.params[j]? = some t → args[j]? = some v → Value.okWide Try.prog W .any base t v := hval0
  have hW' := hW
  obtain ⟨p, q, hA0, hV, rfl, hfz, hnd⟩ := hW
  have hA : DataW.TrodAll enc Try.prog W 0 (fun _ => true) true Try.f7.params.toList args.toList ds p := hA0
  rw [Try.params7] at hA hval hsz
  obtain ⟨v0, v1, d0, d1, p0, p1, rfl, rfl, rfl, h0, h1⟩ := trodAll_two hA
  obtain ⟨rfl, rfl⟩ := trodVars_none hV
  clear hA0 hval0
  simp only [List.append_nil] at hW'
  have hlt : ∀ x ∈ p0 ++ p1, x.block < W.heap.size := fun x hx => by simpa using hW'.lt x (by simpa using hx)
  obtain ⟨a0, len0, cap0, rfl⟩ := okWide_slice Try.underlying23 (hval 0 23 v0 rfl rfl)
  have k0 := h0
  obtain ⟨f0, g0⟩ := h0
  obtain ⟨A0, ts0, c0, e0, hT0, hl0, hx0⟩ := open_toks g0 (fun n hn => by simpa using List.all_eq_true.1 hsz n (DataW.weights_mem_each (j := 0) rfl rfl n hn))
  simp [Value.cells] at e0
  obtain ⟨rfl, rfl, rfl⟩ := e0
  obtain ⟨a1, len1, cap1, rfl⟩ := okWide_slice Try.underlying23 (hval 1 23 v1 rfl rfl)
  have k1 := h1
  obtain ⟨f1, g1⟩ := h1
  obtain ⟨A1, ts1, c1, e1, hT1, hl1, hx1⟩ := open_toks g1 (fun n hn => by simpa using List.all_eq_true.1 hsz n (DataW.weights_mem_each (j := 1) rfl rfl n hn))
  simp [Value.cells] at e1
  obtain ⟨rfl, rfl, rfl⟩ := e1
  refine (lawSame ts0 ts1 a0 a1 cap0 cap1 W (by unfold reachBytes at hl0; omega) (by unfold reachBytes at hl1; omega) hx0 hx1 hT0 hT1).mono fun e W' ⟨he, hg⟩ => ?_
  subst he
  exact ⟨_, rfl, _, _, _, [], p0 ++ p1, [], hW', trodAll_cons_mk (shut_bool Try.underlying4 _) trodAll_mk0, trodAll_mk2 (Below.trod laidOut (by kernel_rfl) (of_decide_eq_true (by kernel_rfl)) k0 hg (fun x hx => hlt x (List.mem_append_left _ hx))) (Below.trod laidOut (by kernel_rfl) (of_decide_eq_true (by kernel_rfl)) k1 hg (fun x hx => hlt x (List.mem_append_right _ hx))), rfl, hg.frame _, fun h => by cases h⟩

theorem over : Rows.tokenSameRow.holds Try.pinned (OpenSpec.ofChange Rows.tokenSameSpec) :=
  OpenClaim.holds_of_wide 7 Try.f7 rfl rfl rfl rfl rfl rfl rfl ⟨rfl, rfl, rfl, rfl, rfl⟩ rfl rfl rfl rfl rfl (by kernel_rfl) Try.func7 (by kernel_rfl)
    (of_decide_eq_true (by kernel_rfl)) (by unfold Func.isWrapper; first | (rw [if_pos (by decide +kernel)]; kernel_rfl) | (rw [if_neg (by decide +kernel)]; exact ⟨rfl, rfl⟩))
    (fun os started H enc _ => lifted os started H enc)

theorem proved : Rows.TokenSameSaid := over

end Go.Proofs.Ytgaiknigdgoaeaa.tokenSame
