/-
  TokenTokens: for every string the law returns true: the program and the reference read the same tokens. No condition.
-/
import Derived.Test.YtgaiknigdgoaeaaRefTokens
import Derived.Test.YtgaiknigdgoaeaaSlices
import Derived.ProofKit
import Derived.OpenShut
import Derived.ShutString
namespace Go.Proofs.Ytgaiknigdgoaeaa
open Go.RowKit

theorem own : ownKnob Try.prog.godebug = none := by kernel_rfl

theorem toksS_len (l : List UInt8) : (toksS l).1.length ≤ 4000 := by
  obtain ⟨a, z, e, h⟩ : ∃ a z e, toksS l = (a, z, e) := ⟨_, _, _, rfl⟩
  by_cases he : e = 0
  · subst he
    rw [h]
    unfold toksS at h
    split at h
    · simp at h
    · obtain ⟨new, h1, h2, _, _, h6⟩ := run_ok _ _ _ _ _ _ h (by simp)
      exact h6
  · have : (toksS l).1 = [] := by
      unfold toksS at h ⊢
      split
      · rfl
      · rename_i h2
        rw [if_neg h2] at h
        rw [h]
        exact run_err _ _ _ _ _ _ _ h he
    rw [this]; simp

theorem toks_more {w : World} {B B' : Nat} {A : Option Addr} {ts : List Tok} (h : Toks w B A ts) (hB : B ≤ B') : Toks w B' A ts := by
  rcases h with h | ⟨b, off, rfl, hlt, h⟩
  · exact .inl h
  · exact .inr ⟨b, off, rfl, by omega, h⟩

set_option maxHeartbeats 2000000 in
theorem lawTokens (s : ByteArray) (hs : s.size ≤ maxLen) (w : World) :
    Calls Try.prog 3 #[.string s] w fun e w' => e = .returned (.bool true) ∧ Below w.heap.size w w' := by
  have hs' : s.size ≤ 9223372036854775807 := by unfold maxLen at hs; exact hs
  by_cases hmid : 3000 < s.size ∧ s.size ≤ 20000
  · obtain ⟨h3, h2⟩ := hmid
    clear hs
    go_enter Try.func3, Try.ntmps3
    go_wp2_with fail
    refine (awake_any _).mono ?_
    rintro e w1 ⟨rfl, hb1⟩
    go_wp2_with fail
    refine (awake_any _).mono ?_
    rintro e w2 ⟨rfl, hb2⟩
    go_wp2_with fail
    go_ret
    exact ⟨rfl, hb1.trans (hb2.mono hb1.size)⟩
  · have C1 := Lib.hid (fun w => tokens_any s hs w)
    have C2 := Lib.hid (fun w => refTokens_any s hs w)
    have hl4 := toksS_len s.data.toList
    clear hs
    generalize toksS s.data.toList = R at C1 C2 hl4
    obtain ⟨a, z, er⟩ := R
    simp only [TokRes] at C1 C2 hl4
    have hcase : s.size ≤ 3000 ∨ 20000 < s.size := by omega
    clear hmid
    rcases hcase with h3 | h2
    all_goals
      go_enter Try.func3, Try.ntmps3
      go_wp2_with fail
      refine (awake_any _).mono ?_
      rintro e w1 ⟨rfl, hb1⟩
      have HB1 := Lib.hid hb1
      clear hb1
      go_wp2_with fail
      refine (C1.out _).mono ?_
      rintro e w2 ⟨v, rfl, hown, hb2⟩
      obtain ⟨A, c, rfl, hT⟩ := toks_of_own hown
      have HT := Lib.hid hT
      have HB2 := Lib.hid (show Below w.heap.size w w2 from HB1.out.trans (hb2.mono HB1.out.size))
      clear hT hown hb2
      go_wp2_with fail
      refine (C2.out _).mono ?_
      rintro e w3 ⟨v, rfl, hown, hb3⟩
      obtain ⟨A', c', rfl, hT'⟩ := toks_of_own hown
      have HE := Lib.hid (equal_same a A A' c c' _ _ w3 (by unfold maxLen; omega) (HT.out.below hb3) hT')
      have HB3 := Lib.hid (show Below w.heap.size w w3 from HB2.out.trans (hb3.mono HB2.out.size))
      clear hT' hown hb3
      go_wp2_with fail
      refine HE.out.mono ?_
      rintro e w4 ⟨rfl, hb4⟩
      go_wp2_with fail
      go_ret
      exact ⟨rfl, HB3.out.trans (hb4.mono HB3.out.size)⟩

end Go.Proofs.Ytgaiknigdgoaeaa
namespace Go.Proofs.Ytgaiknigdgoaeaa.tokenTokens
open Go.ChangeShapes Go.WideShapes Go.ChangeAt Go.RowKit
open Go.ChangeMaps (open_string shut_string)

set_option maxRecDepth 100000 in
theorem lifted (os : Os) (started : os.Started) (H : Type) (enc : TypeId × Value → H) :
    ReturnsInHanded {} Try.checked os 3 .any (Rows.tokenTokensSpec.pre6 enc Try.prog Try.f3 Rows.tokenTokensRow.domain false) (Rows.tokenTokensSpec.post enc Try.prog Try.f3 false true false false) := by
  refine returnsInHanded_of_change (C := Try.checked) own started (by kernel_rfl) Try.func3
    (ChangeSpec.witness6 (enc := enc) (C := Try.checked) false ⟨#[], #[.string ByteArray.empty], []⟩ 8 (by kernel_rfl) (by kernel_rfl) (by kernel_rfl) (by kernel_rfl)) ?_
  intro W base args ds gs before hval0 hW hcnd _
  have hval : ∀ (j : Nat) t v, Try.f3.params[j]? = some t → args[j]? = some v → Value.okWide Try.prog W .any base t v := hval0
  have hW' := hW
  obtain ⟨p, q, hA0, hV, rfl, hfz, hnd⟩ := hW
  have hA : DataW.TrodAll enc Try.prog W 0 (fun _ => true) true Try.f3.params.toList args.toList ds p := hA0
  rw [Try.params3] at hA hval
  obtain ⟨v0, vs0, d0, ds0, p0, q0, hargs, rfl, rfl, h0, r0⟩ := trodAll_cons hA
  obtain ⟨rfl, rfl, rfl⟩ := trodAll_nil r0
  obtain rfl : args = #[v0] := by cases args; simp_all
  obtain ⟨rfl, rfl⟩ := trodVars_none hV
  obtain ⟨a0, rfl, rfl, rfl, w0⟩ := open_string Try.underlying9 (hval 0 9 v0 rfl rfl) h0
  clear hA0 hval0
  simp only [List.append_nil] at hW'
  refine (lawTokens a0 w0 W).mono fun e W' ⟨he, hg⟩ => ?_
  subst he
  exact ⟨_, rfl, _, _, _, [], [], [], hW', trodAll_cons_mk (shut_bool Try.underlying4 _) trodAll_mk0, trodAll_cons_mk (shut_string Try.underlying9 w0) trodAll_mk0, rfl, hg.frame _, fun h => by cases h⟩

theorem over : Rows.tokenTokensRow.holds Try.pinned (OpenSpec.ofChange Rows.tokenTokensSpec) :=
  OpenClaim.holds_of_wide 3 Try.f3 rfl rfl rfl rfl rfl rfl rfl ⟨rfl, rfl, rfl, rfl, rfl⟩ rfl rfl rfl rfl rfl (by kernel_rfl) Try.func3 (by kernel_rfl)
    (of_decide_eq_true (by kernel_rfl)) (by unfold Func.isWrapper; first | (rw [if_pos (by decide +kernel)]; kernel_rfl) | (rw [if_neg (by decide +kernel)]; exact ⟨rfl, rfl⟩))
    (fun os started H enc _ => lifted os started H enc)

theorem proved : Rows.TokenTokensSaid := over

end Go.Proofs.Ytgaiknigdgoaeaa.tokenTokens
