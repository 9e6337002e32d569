import Derived.Test.YthnhacncnhknnaaDoorSSbL8
import Derived.Test.YthnhacncnhknnaaDoorZ09
import Derived.Test.YthnhacncnhknnaaDoorZ10
import Derived.Test.YthnhacncnhknnaaDoorZ11
import Derived.Test.YthnhacncnhknnaaDoorChecked
import Derived.Test.YthnhacncnhknnaaDoorRows
import Derived.Test.YthnhacncnhknnaaDoorTie
import Derived.Test.YthnhacncnhknnaaDoorCards
import Derived.SizedLaws
/-
  The statement SubgraphJoin: the law answers true for every input, and its arguments read as they did; its card.
-/
namespace Go.Proofs.YthnhacncnhknnaaDoor.subgraphJoin
open Go.ChangeShapes Go.WideShapes Go.ChangeAt Go.RowKit Go.Deep

set_option maxRecDepth 100000 in
theorem lifted (os : Os) (started : os.Started) (H : Type) (enc : TypeId × Value → H) :
    ReturnsInHanded {} Tryd.checked os 4 .any (fun w args => (Rows.subgraphJoinSpec.pre enc Tryd.prog Tryd.f4 Rows.subgraphJoinRow.domain false w args ∧ laidMetH Tryd.prog laidL w) ∧ sizedMet enc Tryd.prog Tryd.f4 (OpenSpec.ofChange Rows.subgraphJoinSpec) false w args)
      (Rows.subgraphJoinSpec.post enc Tryd.prog Tryd.f4 false true false false) := by
  refine returnsInHanded_of_change_and (C := Tryd.checked) (X := fun w _ => laidMetH Tryd.prog laidL w) (fun _ _ _ hh h => h.of_heap hh) ownNone started (by kernel_rfl) Tryd.func4
    (ChangeSpec.witness_shaped (enc := enc) (C := Tryd.checked) (os := os) (X := fun w _ => laidMetH Tryd.prog laidL w) false (World.laidAll Tryd.prog os laidL) #[.agg #[.slice none 0 0, .slice none 0 0], .agg #[.slice none 0 0, .slice none 0 0], .agg #[.slice none 0 0, .slice none 0 0]] 8 (World.laidAll_os _ _ _)
      (shaped os _) (by kernel_rfl) (by kernel_rfl) (by kernel_rfl) (met os _)) ?_
  intro W base args ds gs before hval0 hW hcnd hsz0 hL _
  have hval : ∀ (j : Nat) t v, Tryd.f4.params[j]? = some t → args[j]? = some v → Value.okWide Tryd.prog W .any base t v := hval0
  have hsz : (DataW.weightsEach Tryd.prog (Tryd.f4.params.toList ++ Rows.subgraphJoinSpec.plain.varTypes Tryd.prog) (ds ++ gs)).all (· ≤ reachBytes) = true := hsz0
  have hTab := tab_of_laid hL
  have hW' := hW
  obtain ⟨p, q, hA0, hV, rfl, hfz, hnd⟩ := hW
  have hA : DataW.TrodAll enc Tryd.prog W 0 (fun _ => true) true Tryd.f4.params.toList args.toList ds p := hA0
  rw [Tryd.params4] at hA hval hsz
  obtain ⟨v0, v1, v2, d0, d1, d2, p0, p1, p2, rfl, rfl, rfl, h0, h1, h2⟩ := trodAll_three hA
  obtain ⟨rfl, rfl⟩ := trodVars_none hV
  clear hA0 hval0 hsz0 hL hcnd
  simp only [List.append_nil] at hW'
  have hlt : ∀ x ∈ p0 ++ p1 ++ p2, x.block < W.heap.size := fun x hx => by simpa using hW'.lt x (by simpa using hx)
  have k0 := h0
  obtain ⟨cs0, rfl, _⟩ := okWide_struct Tryd.underlying25 (hval 0 25 v0 rfl rfl)
  obtain ⟨f0, g0⟩ := h0
  obtain ⟨t0, An0, cn0, Ae0, ce0, e0, hT0⟩ := open_G g0
  obtain rfl := agg_of (e0)
  have k1 := h1
  obtain ⟨cs1, rfl, _⟩ := okWide_struct Tryd.underlying27 (hval 1 27 v1 rfl rfl)
  obtain ⟨f1, g1⟩ := h1
  obtain ⟨t1, An1, cn1, Ae1, ce1, e1, hT1, hU1, hw1⟩ := open_P g1
  obtain ⟨l1, z1⟩ := hw1 (fun n hn => by simpa using List.all_eq_true.1 hsz n (DataW.weights_mem_each (j := 1) rfl rfl n hn))
  obtain rfl := agg_of (e1)
  have k2 := h2
  obtain ⟨cs2, rfl, _⟩ := okWide_struct Tryd.underlying27 (hval 2 27 v2 rfl rfl)
  obtain ⟨f2, g2⟩ := h2
  obtain ⟨t2, An2, cn2, Ae2, ce2, e2, hT2, hU2, hw2⟩ := open_P g2
  obtain ⟨l2, z2⟩ := hw2 (fun n hn => by simpa using List.all_eq_true.1 hsz n (DataW.weights_mem_each (j := 2) rfl rfl n hn))
  obtain rfl := agg_of (e2)
  refine (lawJoin7 closeG_any boundaryG_any allG_any joinG_any meetG_any t0 An0 cn0 Ae0 ce0 t1 An1 cn1 Ae1 ce1 t2 An2 cn2 Ae2 ce2 W hTab hT0 hT1 hU1 l1 z1 hT2 hU2 l2 z2).mono fun e W' ⟨he, hg⟩ => ?_
  subst he
  exact ⟨_, rfl, _, _, _, [], p0 ++ p1 ++ p2, [], hW', trodAll_cons_mk (shut_bool Tryd.underlying4 _) trodAll_mk0, (by rw [List.append_assoc p0 p1 p2]; exact trodAll_mk3 (Below.trod laidOut (by kernel_rfl) (of_decide_eq_true (by kernel_rfl)) k0 hg (fun x hx => hlt x (List.mem_append_left _ (List.mem_append_left _ hx)))) (Below.trod laidOut (by kernel_rfl) (of_decide_eq_true (by kernel_rfl)) k1 hg (fun x hx => hlt x (List.mem_append_left _ (List.mem_append_right _ hx)))) (Below.trod laidOut (by kernel_rfl) (of_decide_eq_true (by kernel_rfl)) k2 hg (fun x hx => hlt x (List.mem_append_right _ hx)))), rfl, hg.frame _, fun h => by cases h⟩

theorem f_holds : Rows.SubgraphJoinSaid :=
  OpenClaim.holds_of_wide 4 Tryd.f4 rfl rfl rfl rfl rfl rfl rfl ⟨rfl, rfl, rfl, rfl, rfl⟩ rfl rfl rfl rfl rfl (by kernel_rfl) Tryd.func4 (by kernel_rfl)
    (of_decide_eq_true (by kernel_rfl)) (by unfold Func.isWrapper; first | (rw [if_pos (by decide +kernel)]; kernel_rfl) | (rw [if_neg (by decide +kernel)]; exact ⟨rfl, rfl⟩))
    (fun os started H enc _ => lifted os started H enc)

theorem proved : Rows.SubgraphJoinCardSaid :=
  Claim7.holds_tied_plain_at .later [] [.data, .data] true (true, "d40fe502c7eb20a2fb0b35b81948407b17b2b9d14f2ae580415a3ab91d0055d3") false
    f_holds (fun _ h => by cases h) (by kernel_rfl) (fun _ h => by cases h) subgraphJoin_row_tie rfl ⟨rfl, rfl⟩ (by kernel_rfl) rfl
    (fun f fn hf hfn => by
      obtain rfl : f = 4 := Option.some.inj ((show Tryd.prog.funcNamed "scarfjoint/scarfjointlaw07.SubgraphJoin" = some 4 by kernel_rfl).symm.trans hf) |>.symm
      obtain rfl : fn = Tryd.f4 := (Option.some.inj (Tryd.func4.symm.trans hfn)).symm
      exact ⟨by kernel_rfl, fun j t ht => by
        rw [Tryd.params4] at ht
        have hm : t ∈ [25, 27, 27] := List.mem_of_getElem? (by simpa using ht)
        have hs : ∀ t ∈ [25, 27, 27], Tryd.prog.wantsStandIn t = false := by
          intro t ht
          simp only [List.mem_cons, List.not_mem_nil, or_false] at ht
          rcases ht with rfl | rfl | rfl <;> kernel_rfl
        exact hs t hm⟩)
    (by kernel_rfl)

end Go.Proofs.YthnhacncnhknnaaDoor.subgraphJoin
