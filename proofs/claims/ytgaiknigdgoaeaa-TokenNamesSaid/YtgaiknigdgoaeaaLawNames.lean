/-
  TokenNames: for every string the law returns true. No condition.
-/
import Derived.Test.YtgaiknigdgoaeaaSame
import Derived.Test.YtgaiknigdgoaeaaRight
import Derived.ProofKit
import Derived.OpenShut
import Derived.ShutString
namespace Go.Proofs.Ytgaiknigdgoaeaa
open Go.RowKit

theorem own : ownKnob Try.prog.godebug = none := by kernel_rfl

theorem one_token {l : List UInt8} (h : rightS 1 l = true) : toksS l = ([⟨1, l, 1⟩], 0, 0) := by
  have hl := right_len h
  have hc : cat [⟨[], 1, l⟩] = l := by simp [cat, quoteS]
  have := run_cat [⟨[], 1, l⟩] (l.length + 1) [] 1 (by rw [hc]; omega) ⟨gap_nil, h, by intro c hc; simp [cat] at hc, trivial⟩ (by simp)
  rw [hc] at this
  unfold toksS
  rw [if_neg (by omega), this]
  rfl

theorem block_toks (w : World) (s : ByteArray) : Toks (w.alloc (.cells #[.int .i64 1, .string s, .int .i64 1] 29)) (w.heap.size + 1) (some ⟨w.heap.size, 0, none⟩) [⟨1, s.data.toList, 1⟩] := by
  have hn : (w.alloc (.cells #[.int .i64 1, .string s, .int .i64 1] 29)).heap[w.heap.size]? = some (.cells #[.int .i64 1, .string s, .int .i64 1] 29 (0, 0)) := heap_alloc_new w _
  refine .inr ⟨w.heap.size, 0, rfl, by omega, fun i t ht => ?_⟩
  match i, ht with
  | 0, ht =>
    simp only [List.getElem?_cons_zero, Option.some.injEq] at ht
    subst ht
    refine ⟨Lib.cell_of_heap hn 0, ?_, Lib.cell_of_heap hn 2⟩
    have := Lib.cell_of_heap hn 1
    rw [show (⟨s.data.toList.toArray⟩ : ByteArray) = s from bytes_ext rfl]
    exact this
  | i + 1, ht => simp at ht

set_option maxHeartbeats 2000000 in
theorem lawNames (s : ByteArray) (hs : s.size ≤ maxLen) (w : World) :
    Calls Try.prog 5 #[.string s] w fun e w' => e = .returned (.bool true) ∧ Below w.heap.size w w' := by
  have hs' : s.size ≤ 9223372036854775807 := by unfold maxLen at hs; exact hs
  by_cases h100 : 100 < s.size
  · clear hs
    go_enter Try.func5, Try.ntmps5
    go_wp2_with fail
    refine (awake_any _).mono ?_
    rintro e w1 ⟨rfl, hb1⟩
    go_wp2_with fail
    refine (awake_any _).mono ?_
    rintro e w2 ⟨rfl, hb2⟩
    go_wp2_with fail
    go_ret
    exact ⟨rfl, hb1.trans (hb2.mono hb1.size)⟩
  · have C1 := Lib.hid (fun w => isName_any s hs w)
    have C2 := Lib.hid (fun w => refIsName_any s (by omega) w)
    cases hr : rightS 1 s.data.toList with
    | false =>
      rw [hr] at C1 C2
      clear hs hr
      go_enter Try.func5, Try.ntmps5
      go_wp2_with fail
      refine (awake_any _).mono ?_
      rintro e w1 ⟨rfl, hb1⟩
      go_wp2_with fail
      refine (C1.out _).mono ?_
      rintro e w' ⟨rfl, rfl⟩
      go_wp2_with fail
      refine (C2.out _).mono ?_
      rintro e w2 ⟨rfl, hb2⟩
      go_wp2_with fail
      refine (C2.out _).mono ?_
      rintro e w3 ⟨rfl, hb3⟩
      go_wp2_with fail
      refine (C1.out _).mono ?_
      rintro e w' ⟨rfl, rfl⟩
      go_wp2_with fail
      refine (C2.out _).mono ?_
      rintro e w4 ⟨rfl, hb4⟩
      go_wp2_with fail
      go_ret
      have z1 := hb1.size
      have z2 := hb2.size
      have z3 := hb3.size
      exact ⟨rfl, ((hb1.trans (hb2.mono z1)).trans (hb3.mono (by omega))).trans (hb4.mono (by omega))⟩
    | true =>
      have HT := Lib.hid (one_token hr)
      rw [hr] at C1 C2
      clear hr
      have CT := Lib.hid (fun w => tokens_any s hs w)
      clear hs
      go_enter Try.func5, Try.ntmps5
      go_wp2_with fail
      refine (awake_any _).mono ?_
      rintro e w1 ⟨rfl, hb1⟩
      go_wp2_with fail
      refine (C1.out _).mono ?_
      rintro e w' ⟨rfl, rfl⟩
      go_wp2_with fail
      refine (C2.out _).mono ?_
      rintro e w2 ⟨rfl, hb2⟩
      go_wp2_with fail
      refine (C2.out _).mono ?_
      rintro e w3 ⟨rfl, hb3⟩
      have HB3 := Lib.hid (show Below w.heap.size w w3 from (hb1.trans (hb2.mono hb1.size)).trans (hb3.mono (by have := hb1.size; have := hb2.size; omega)))
      clear hb1 hb2 hb3
      go_wp2_with fail
      refine (CT.out _).mono ?_
      rintro e w4 ⟨v, rfl, hown, hb4⟩
      rw [HT.out] at hown ⊢
      obtain ⟨A, c, rfl, hT⟩ := toks_of_own hown
      have hT5 := hT.below ((Below.refl w4.heap.size w4).alloc (Nat.le_refl _) (.cells #[.int .i64 1, .string s, .int .i64 1] 29))
      have HE := Lib.hid (equal_same [⟨1, s.data.toList, 1⟩] A (some ⟨w4.heap.size, 0, none⟩) c 1 _ _ _ (show 1 ≤ maxLen by decide) hT5 (block_toks w4 s))
      have HB4 := Lib.hid (show Below w.heap.size w w4 from HB3.out.trans (hb4.mono HB3.out.size))
      clear hT hT5 hown hb4
      go_wp2_with fail
      refine HE.out.mono ?_
      rintro e w5 ⟨rfl, hb5⟩
      go_wp2_with fail
      go_ret
      exact ⟨rfl, (HB4.out.alloc HB4.out.size _).trans (hb5.mono (by have := HB4.out.size; simp; omega))⟩

end Go.Proofs.Ytgaiknigdgoaeaa
namespace Go.Proofs.Ytgaiknigdgoaeaa.tokenNames
open Go.ChangeShapes Go.WideShapes Go.ChangeAt Go.RowKit
open Go.ChangeMaps (open_string shut_string)

set_option maxRecDepth 100000 in
theorem lifted (os : Os) (started : os.Started) (H : Type) (enc : TypeId × Value → H) :
    ReturnsInHanded {} Try.checked os 5 .any (Rows.tokenNamesSpec.pre6 enc Try.prog Try.f5 Rows.tokenNamesRow.domain false) (Rows.tokenNamesSpec.post enc Try.prog Try.f5 false true false false) := by
  refine returnsInHanded_of_change (C := Try.checked) own started (by kernel_rfl) Try.func5
    (ChangeSpec.witness6 (enc := enc) (C := Try.checked) false ⟨#[], #[.string ByteArray.empty], []⟩ 8 (by kernel_rfl) (by kernel_rfl) (by kernel_rfl) (by kernel_rfl)) ?_
  intro W base args ds gs before hval0 hW hcnd _
  have hval : ∀ (j : Nat) t v, Try.f5.params[j]? = some t → args[j]? = some v → Value.okWide Try.prog W .any base t v := hval0
  have hW' := hW
  obtain ⟨p, q, hA0, hV, rfl, hfz, hnd⟩ := hW
  have hA : DataW.TrodAll enc Try.prog W 0 (fun _ => true) true Try.f5.params.toList args.toList ds p := hA0
  rw [Try.params5] at hA hval
  obtain ⟨v0, vs0, d0, ds0, p0, q0, hargs, rfl, rfl, h0, r0⟩ := trodAll_cons hA
  obtain ⟨rfl, rfl, rfl⟩ := trodAll_nil r0
  obtain rfl : args = #[v0] := by cases args; simp_all
  obtain ⟨rfl, rfl⟩ := trodVars_none hV
  obtain ⟨a0, rfl, rfl, rfl, w0⟩ := open_string Try.underlying9 (hval 0 9 v0 rfl rfl) h0
  clear hA0 hval0
  simp only [List.append_nil] at hW'
  refine (lawNames a0 w0 W).mono fun e W' ⟨he, hg⟩ => ?_
  subst he
  exact ⟨_, rfl, _, _, _, [], [], [], hW', trodAll_cons_mk (shut_bool Try.underlying4 _) trodAll_mk0, trodAll_cons_mk (shut_string Try.underlying9 w0) trodAll_mk0, rfl, hg.frame _, fun h => by cases h⟩

theorem over : Rows.tokenNamesRow.holds Try.pinned (OpenSpec.ofChange Rows.tokenNamesSpec) :=
  OpenClaim.holds_of_wide 5 Try.f5 rfl rfl rfl rfl rfl rfl rfl ⟨rfl, rfl, rfl, rfl, rfl⟩ rfl rfl rfl rfl rfl (by kernel_rfl) Try.func5 (by kernel_rfl)
    (of_decide_eq_true (by kernel_rfl)) (by unfold Func.isWrapper; first | (rw [if_pos (by decide +kernel)]; kernel_rfl) | (rw [if_neg (by decide +kernel)]; exact ⟨rfl, rfl⟩))
    (fun os started H enc _ => lifted os started H enc)

theorem proved : Rows.TokenNamesSaid := over

end Go.Proofs.Ytgaiknigdgoaeaa.tokenNames
