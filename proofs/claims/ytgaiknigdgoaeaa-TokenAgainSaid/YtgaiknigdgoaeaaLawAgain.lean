/-
  TokenAgain: for every string the law returns true: writing the tokens of a text and reading them again gives the same list. No condition.
-/
import Derived.Test.YtgaiknigdgoaeaaSame
import Derived.ProofKit
import Derived.OpenShut
import Derived.ShutString
namespace Go.Proofs.Ytgaiknigdgoaeaa
open Go.RowKit

theorem own : ownKnob Try.prog.godebug = none := by kernel_rfl

theorem run_right {l : List UInt8} {a : List Tok} {z : Nat} (h : toksS l = (a, z, 0)) : (∀ t ∈ a, rightS t.kind t.text = true) ∧ a.length ≤ 4000 := by
  unfold toksS at h
  split at h
  · simp at h
  · obtain ⟨new, h1, h2, _, _, h6⟩ := run_ok _ _ _ _ _ _ h (by simp)
    simp only [List.nil_append] at h1
    subst h1
    exact ⟨h2, h6⟩

set_option maxHeartbeats 2000000 in
theorem lawAgain (s : ByteArray) (hs : s.size ≤ maxLen) (w : World) :
    Calls Try.prog 8 #[.string s] w fun e w' => e = .returned (.bool true) ∧ Below w.heap.size w w' := by
  have hs' : s.size ≤ 9223372036854775807 := by unfold maxLen at hs; exact hs
  by_cases h1000 : 1000 < s.size
  · clear hs
    go_enter Try.func8, Try.ntmps8
    go_wp2_with fail
    refine (awake_any _).mono ?_
    rintro e w1 ⟨rfl, hb1⟩
    go_wp2_with fail
    refine (awake_any _).mono ?_
    rintro e w2 ⟨rfl, hb2⟩
    go_wp2_with fail
    go_ret
    exact ⟨rfl, hb1.trans (hb2.mono hb1.size)⟩
  · have CT := Lib.hid (fun w => tokens_any s hs w)
    clear hs
    have hl : s.data.toList.length = s.size := by simp
    obtain ⟨a, z, er, hR⟩ : ∃ a z er, toksS s.data.toList = (a, z, er) := ⟨_, _, _, rfl⟩
    by_cases he : er = 0
    · subst he
      obtain ⟨hr1, hr2⟩ := run_right hR
      have ha := again (by omega) hR
      obtain ⟨b, hb1, hb2⟩ := write_read ha
      have HW := Lib.hid (show writeS a = (wtext a, 0) from ha)
      have hall : allRight a = true := by unfold allRight; rw [List.all_eq_true]; exact hr1
      have hwl := wtext_le a hall
      obtain ⟨hr3, hr4⟩ := run_right hb1
      have HR := Lib.hid hR
      have HRB := Lib.hid hb1
      have HSAME := Lib.hid (show sameR a b = true by rw [sameR_comm]; exact sameR_of_same hb2)
      have HX := Lib.hid (show ∀ t ∈ a, t.text.length ≤ 1000000 from fun t ht => by have := right_len (hr1 t ht); omega)
      have CTB := Lib.hid (fun w => tokens_any ⟨(wtext a).toArray⟩ (by show (wtext a).length ≤ maxLen; unfold maxLen; omega) w)
      clear hR hb1 hb2 ha hr1 hr3 hall hl hwl
      go_enter Try.func8, Try.ntmps8
      go_wp2_with fail
      refine (awake_any _).mono ?_
      rintro e w1 ⟨rfl, hb1⟩
      have HB1 := Lib.hid hb1
      clear hb1
      go_wp2_with fail
      refine (CT.out _).mono ?_
      rintro e w2 ⟨v, rfl, hown, hb2⟩
      rw [HR.out] at hown ⊢
      obtain ⟨A, c, rfl, hT⟩ := toks_of_own hown
      have HT := Lib.hid hT
      have HB2 := Lib.hid (show Below w.heap.size w w2 from HB1.out.trans (hb2.mono HB1.out.size))
      clear hT hown hb2
      go_wp2_with fail
      refine (write_any a A c _ HT.out HX.out (by unfold maxLen; omega)).mono ?_
      rintro e w3 ⟨rfl, hb3⟩
      rw [HW.out]
      have HT3 := Lib.hid (HT.out.below hb3)
      have HZ3 := Lib.hid hb3.size
      have HB3 := Lib.hid (show Below w.heap.size w w3 from HB2.out.trans (hb3.mono HB2.out.size))
      clear hb3
      go_wp2_with fail
      refine (CTB.out _).mono ?_
      rintro e w4 ⟨v, rfl, hown, hb4⟩
      rw [HRB.out] at hown ⊢
      obtain ⟨A', c', rfl, hT'⟩ := toks_of_own hown
      have hTa : Toks w4 w4.heap.size A a := by
        rcases (HT3.out.below (hb4.mono HZ3.out)) with h | ⟨b', off, rfl, hlt, h⟩
        · exact .inl h
        · exact .inr ⟨b', off, rfl, by have := hb4.size; have := HZ3.out; omega, h⟩
      have HS := Lib.hid (same_any a b A A' c c' w4 (by unfold maxLen; omega) (by unfold maxLen; omega) hTa hT')
      have HB4 := Lib.hid (show Below w.heap.size w w4 from HB3.out.trans (hb4.mono HB3.out.size))
      clear hT' hown hb4 hTa
      go_wp2_with fail
      refine HS.out.mono ?_
      rintro e w5 ⟨rfl, hb5⟩
      rw [HSAME.out]
      go_wp2_with fail
      go_ret
      exact ⟨rfl, HB4.out.trans (hb5.mono HB4.out.size)⟩
    · have HR := Lib.hid hR
      have t1 : ((er : Int) != 0) = true := by simp; omega
      clear hR he hl
      go_enter Try.func8, Try.ntmps8
      go_wp2_with fail
      refine (awake_any _).mono ?_
      rintro e w1 ⟨rfl, hb1⟩
      have HB1 := Lib.hid hb1
      clear hb1
      go_wp2_with fail
      refine (CT.out _).mono ?_
      rintro e w2 ⟨v, rfl, hown, hb2⟩
      rw [HR.out] at hown ⊢
      obtain ⟨ao, cap, rfl⟩ := slice_of hown
      clear hown
      go_wp2_with fail
      go_ret
      exact ⟨rfl, HB1.out.trans (hb2.mono HB1.out.size)⟩

end Go.Proofs.Ytgaiknigdgoaeaa
namespace Go.Proofs.Ytgaiknigdgoaeaa.tokenAgain
open Go.ChangeShapes Go.WideShapes Go.ChangeAt Go.RowKit
open Go.ChangeMaps (open_string shut_string)

set_option maxRecDepth 100000 in
theorem lifted (os : Os) (started : os.Started) (H : Type) (enc : TypeId × Value → H) :
    ReturnsInHanded {} Try.checked os 8 .any (Rows.tokenAgainSpec.pre6 enc Try.prog Try.f8 Rows.tokenAgainRow.domain false) (Rows.tokenAgainSpec.post enc Try.prog Try.f8 false true false false) := by
  refine returnsInHanded_of_change (C := Try.checked) own started (by kernel_rfl) Try.func8
    (ChangeSpec.witness6 (enc := enc) (C := Try.checked) false ⟨#[], #[.string ByteArray.empty], []⟩ 8 (by kernel_rfl) (by kernel_rfl) (by kernel_rfl) (by kernel_rfl)) ?_
  intro W base args ds gs before hval0 hW hcnd _
  have hval : ∀ (j : Nat) t v, Try.f8.params[j]? = some t → args[j]? = some v → Value.okWide Try.prog W .any base t v := hval0
  have hW' := hW
  obtain ⟨p, q, hA0, hV, rfl, hfz, hnd⟩ := hW
  have hA : DataW.TrodAll enc Try.prog W 0 (fun _ => true) true Try.f8.params.toList args.toList ds p := hA0
  rw [Try.params8] at hA hval
  obtain ⟨v0, vs0, d0, ds0, p0, q0, hargs, rfl, rfl, h0, r0⟩ := trodAll_cons hA
  obtain ⟨rfl, rfl, rfl⟩ := trodAll_nil r0
  obtain rfl : args = #[v0] := by cases args; simp_all
  obtain ⟨rfl, rfl⟩ := trodVars_none hV
  obtain ⟨a0, rfl, rfl, rfl, w0⟩ := open_string Try.underlying9 (hval 0 9 v0 rfl rfl) h0
  clear hA0 hval0
  simp only [List.append_nil] at hW'
  refine (lawAgain a0 w0 W).mono fun e W' ⟨he, hg⟩ => ?_
  subst he
  exact ⟨_, rfl, _, _, _, [], [], [], hW', trodAll_cons_mk (shut_bool Try.underlying4 _) trodAll_mk0, trodAll_cons_mk (shut_string Try.underlying9 w0) trodAll_mk0, rfl, hg.frame _, fun h => by cases h⟩

theorem over : Rows.tokenAgainRow.holds Try.pinned (OpenSpec.ofChange Rows.tokenAgainSpec) :=
  OpenClaim.holds_of_wide 8 Try.f8 rfl rfl rfl rfl rfl rfl rfl ⟨rfl, rfl, rfl, rfl, rfl⟩ rfl rfl rfl rfl rfl (by kernel_rfl) Try.func8 (by kernel_rfl)
    (of_decide_eq_true (by kernel_rfl)) (by unfold Func.isWrapper; first | (rw [if_pos (by decide +kernel)]; kernel_rfl) | (rw [if_neg (by decide +kernel)]; exact ⟨rfl, rfl⟩))
    (fun os started H enc _ => lifted os started H enc)

theorem proved : Rows.TokenAgainSaid := over

end Go.Proofs.Ytgaiknigdgoaeaa.tokenAgain
