/-
  TokenNumber: for every string the law returns true. No condition.
-/
import Derived.Test.YtgaiknigdgoaeaaAwake
import Derived.Test.YtgaiknigdgoaeaaRight
import Derived.ProofKit
import Derived.OpenShut
import Derived.ShutString
namespace Go.Proofs.Ytgaiknigdgoaeaa
open Go.RowKit

theorem own : ownKnob Try.prog.godebug = none := by kernel_rfl

theorem right_num_mk {l : List UInt8} (h : ∀ c ∈ l, isDig c = true) (h1 : 1 ≤ l.length) (h9 : l.length ≤ 9) : rightS 2 l = true := by
  cases l with
  | nil => simp at h1
  | cons c r =>
    have hd := h c (by simp)
    have hl : isLet c = false := by
      simp [isDig] at hd
      simp [isLet]; omega
    have hp := pre_self h
    have e : scanS (c :: r) = (2, (c :: r).length, 0) := by
      have : scanS (c :: r) = runS 2 9 isDig (c :: r) := by simp [scanS, hl, hd]
      rw [this]
      unfold runS
      rw [hp, if_neg (by omega)]
    unfold rightS
    rw [if_neg (by decide), e]
    simp

theorem num_zero {l : List UInt8} (h : rightS 2 l = true) (h8 : l.length ≤ 8) : rightS 2 (48 :: l) = true ∧ numS (48 :: l) = numS l := by
  obtain ⟨h1, h2, h3⟩ := right_num h
  refine ⟨right_num_mk ?_ (by simp) (by simp; omega), by simp [numS]⟩
  intro c hc
  rcases List.mem_cons.1 hc with rfl | hc
  · rfl
  · exact h1 c hc

theorem number_pair (s : ByteArray) (hs : s.size ≤ 900000) (x y : Int)
    (h : (if rightS 2 s.data.toList then (numS s.data.toList : Int) else 0) = x ∧ (if rightS 2 s.data.toList then (0 : Int) else 2) = y) :
    (∀ w, Calls Try.prog 22 #[.string s] w fun e w' => e = .returned (.tuple #[.int .i64 x, .int .i64 y]) ∧ w = w') ∧
    (∀ w, Calls Try.prog 23 #[.string s] w fun e w' => e = .returned (.tuple #[.int .i64 x, .int .i64 y]) ∧ Below w.heap.size w w') := by
  obtain ⟨rfl, rfl⟩ := h
  exact ⟨fun w => number_any s (by unfold maxLen; omega) w, fun w => refNumber_any s hs w⟩

set_option maxHeartbeats 2000000 in
theorem lawNumber (s : ByteArray) (hs : s.size ≤ maxLen) (w : World) :
    Calls Try.prog 6 #[.string s] w fun e w' => e = .returned (.bool true) ∧ Below w.heap.size w w' := by
  unfold maxLen at hs
  by_cases h100 : 100 < s.size
  · go_enter Try.func6, Try.ntmps6
    go_wp2_with fail
    refine (awake_any _).mono ?_
    rintro e w1 ⟨rfl, hb1⟩
    go_wp2_with fail
    refine (awake_any _).mono ?_
    rintro e w2 ⟨rfl, hb2⟩
    go_wp2_with fail
    go_ret
    exact ⟨rfl, hb1.trans (hb2.mono hb1.size)⟩
  · cases hr : rightS 2 s.data.toList with
    | false =>
      obtain ⟨c1, c2⟩ := number_pair s (by omega) 0 2 (by rw [hr]; exact ⟨rfl, rfl⟩)
      have C1 := Lib.hid c1
      have C2 := Lib.hid c2
      clear c1 c2 hr
      go_enter Try.func6, Try.ntmps6
      go_wp2_with fail
      refine (awake_any _).mono ?_
      rintro e w1 ⟨rfl, hb1⟩
      go_wp2_with fail
      refine (C1.out _).mono ?_
      rintro e w' ⟨rfl, rfl⟩
      go_wp2_with fail
      refine (C2.out _).mono ?_
      rintro e w2 ⟨rfl, hb2⟩
      go_wp2_with fail
      go_ret
      exact ⟨rfl, hb1.trans (hb2.mono hb1.size)⟩
    | true =>
      obtain ⟨c1, c2⟩ := number_pair s (by omega) (numS s.data.toList) 0 (by rw [hr]; exact ⟨rfl, rfl⟩)
      have C1 := Lib.hid c1
      have C2 := Lib.hid c2
      clear c1 c2
      by_cases h8 : 8 < s.size
      · clear hr
        generalize numS s.data.toList = n at C1 C2
        go_enter Try.func6, Try.ntmps6
        go_wp2_with fail
        refine (awake_any _).mono ?_
        rintro e w1 ⟨rfl, hb1⟩
        go_wp2_with fail
        refine (C1.out _).mono ?_
        rintro e w' ⟨rfl, rfl⟩
        go_wp2_with fail
        refine (C2.out _).mono ?_
        rintro e w2 ⟨rfl, hb2⟩
        go_wp2_with fail
        go_ret
        exact ⟨rfl, hb1.trans (hb2.mono hb1.size)⟩
      · have hl : s.data.toList.length = s.size := by simp
        obtain ⟨hz1, hz2⟩ := num_zero hr (by omega)
        have hcat : ((⟨#[48]⟩ : ByteArray) ++ s).data.toList = 48 :: s.data.toList := by simp
        have C3 := Lib.hid ((number_pair (⟨#[48]⟩ ++ s) (by rw [ByteArray.size_append, show (⟨#[48]⟩ : ByteArray).size = 1 from rfl]; omega) (numS s.data.toList) 0 (by rw [hcat, hz1, hz2]; exact ⟨rfl, rfl⟩)).1)
        clear hr hl hz1 hz2 hcat
        generalize numS s.data.toList = n at C1 C2 C3
        go_enter Try.func6, Try.ntmps6
        go_wp2_with fail
        refine (awake_any _).mono ?_
        rintro e w1 ⟨rfl, hb1⟩
        go_wp2_with fail
        refine (C1.out _).mono ?_
        rintro e w' ⟨rfl, rfl⟩
        go_wp2_with fail
        refine (C2.out _).mono ?_
        rintro e w2 ⟨rfl, hb2⟩
        go_wp2_with fail
        refine (C3.out _).mono ?_
        rintro e w' ⟨rfl, rfl⟩
        go_wp2_with fail
        go_ret
        exact ⟨rfl, hb1.trans (hb2.mono hb1.size)⟩

end Go.Proofs.Ytgaiknigdgoaeaa
namespace Go.Proofs.Ytgaiknigdgoaeaa.tokenNumber
open Go.ChangeShapes Go.WideShapes Go.ChangeAt Go.RowKit
open Go.ChangeMaps (open_string shut_string)

set_option maxRecDepth 100000 in
theorem lifted (os : Os) (started : os.Started) (H : Type) (enc : TypeId × Value → H) :
    ReturnsInHanded {} Try.checked os 6 .any (Rows.tokenNumberSpec.pre6 enc Try.prog Try.f6 Rows.tokenNumberRow.domain false) (Rows.tokenNumberSpec.post enc Try.prog Try.f6 false true false false) := by
  refine returnsInHanded_of_change (C := Try.checked) own started (by kernel_rfl) Try.func6
    (ChangeSpec.witness6 (enc := enc) (C := Try.checked) false ⟨#[], #[.string ByteArray.empty], []⟩ 8 (by kernel_rfl) (by kernel_rfl) (by kernel_rfl) (by kernel_rfl)) ?_
  intro W base args ds gs before hval0 hW hcnd _
  have hval : ∀ (j : Nat) t v, Try.f6.params[j]? = some t → args[j]? = some v → Value.okWide Try.prog W .any base t v := hval0
  have hW' := hW
  obtain ⟨p, q, hA0, hV, rfl, hfz, hnd⟩ := hW
  have hA : DataW.TrodAll enc Try.prog W 0 (fun _ => true) true Try.f6.params.toList args.toList ds p := hA0
  rw [Try.params6] at hA hval
  obtain ⟨v0, vs0, d0, ds0, p0, q0, hargs, rfl, rfl, h0, r0⟩ := trodAll_cons hA
  obtain ⟨rfl, rfl, rfl⟩ := trodAll_nil r0
  obtain rfl : args = #[v0] := by cases args; simp_all
  obtain ⟨rfl, rfl⟩ := trodVars_none hV
  obtain ⟨a0, rfl, rfl, rfl, w0⟩ := open_string Try.underlying9 (hval 0 9 v0 rfl rfl) h0
  clear hA0 hval0
  simp only [List.append_nil] at hW'
  refine (lawNumber a0 w0 W).mono fun e W' ⟨he, hg⟩ => ?_
  subst he
  exact ⟨_, rfl, _, _, _, [], [], [], hW', trodAll_cons_mk (shut_bool Try.underlying4 _) trodAll_mk0, trodAll_cons_mk (shut_string Try.underlying9 w0) trodAll_mk0, rfl, hg.frame _, fun h => by cases h⟩

theorem over : Rows.tokenNumberRow.holds Try.pinned (OpenSpec.ofChange Rows.tokenNumberSpec) :=
  OpenClaim.holds_of_wide 6 Try.f6 rfl rfl rfl rfl rfl rfl rfl ⟨rfl, rfl, rfl, rfl, rfl⟩ rfl rfl rfl rfl rfl (by kernel_rfl) Try.func6 (by kernel_rfl)
    (of_decide_eq_true (by kernel_rfl)) (by unfold Func.isWrapper; first | (rw [if_pos (by decide +kernel)]; kernel_rfl) | (rw [if_neg (by decide +kernel)]; exact ⟨rfl, rfl⟩))
    (fun os started H enc _ => lifted os started H enc)

theorem proved : Rows.TokenNumberSaid := over

end Go.Proofs.Ytgaiknigdgoaeaa.tokenNumber
