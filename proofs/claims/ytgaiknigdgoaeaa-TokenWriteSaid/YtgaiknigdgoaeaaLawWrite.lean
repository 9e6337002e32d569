/-
  TokenWrite: for every slice of tokens the law returns true. No condition.
-/
import Derived.Test.YtgaiknigdgoaeaaSame
import Derived.Test.YtgaiknigdgoaeaaRefWrite
namespace Go.Proofs.Ytgaiknigdgoaeaa
open Go.RowKit

theorem own : ownKnob Try.prog.godebug = none := by kernel_rfl

theorem toks_up {w w' : World} {A : Option Addr} {ts : List Tok} (h : Toks w w.heap.size A ts) (hb : Below w.heap.size w w') : Toks w' w'.heap.size A ts := by
  rcases h.below hb with h | ⟨b, off, rfl, hlt, h⟩
  · exact .inl h
  · exact .inr ⟨b, off, rfl, by have := hb.size; omega, h⟩

theorem read_len {l : List UInt8} {a : List Tok} {z : Nat} (h : toksS l = (a, z, 0)) : a.length ≤ 4000 := by
  unfold toksS at h
  split at h
  · simp at h
  · obtain ⟨new, h1, h2, _, _, h6⟩ := run_ok _ _ _ _ _ _ h (by simp)
    exact h6

theorem writeS_len (l : List Tok) : (writeS l).1.length ≤ 20000 := by
  unfold writeS
  split
  · simp
  · split
    · split
      · simp
      · rename_i h; simp only; omega
    · simp

set_option maxRecDepth 100000 in
set_option maxHeartbeats 2000000 in
theorem lawWrite (ts : List Tok) (A : Option Addr) (c : Nat) (w : World) (hl : ts.length ≤ 4398046511104) (tx : ∀ t ∈ ts, t.text.length ≤ reachBytes) (hA : Toks w w.heap.size A ts) :
    Calls Try.prog 4 #[.slice A ts.length c] w fun e w' => e = .returned (.bool true) ∧ Below w.heap.size w w' := by
  have HA := Lib.hid hA
  have F1 := Lib.hid (fun w h => few_any ts A c w hl tx h)
  clear hA tx
  cases hf : fewB ts with
  | false =>
    rw [hf] at F1
    clear hf
    go_enter Try.func4, Try.ntmps4
    go_wp2_with fail
    refine (awake_any _).mono ?_
    rintro e w1 ⟨rfl, hb1⟩
    have HA1 := Lib.hid (toks_up HA.out hb1)
    have HB1 := Lib.hid hb1
    clear hb1
    go_wp2_with fail
    refine (F1.out _ HA1.out).mono ?_
    rintro e w' ⟨rfl, rfl⟩
    go_wp2_with fail
    refine (awake_any _).mono ?_
    rintro e w2 ⟨rfl, hb2⟩
    go_wp2_with fail
    go_ret
    exact ⟨rfl, HB1.out.trans (hb2.mono HB1.out.size)⟩
  | true =>
    rw [hf] at F1
    obtain ⟨l1, _, l3⟩ := few_text hf
    have HX := Lib.hid l3
    have hwl := writeS_len ts
    obtain ⟨txt, er, hw⟩ : ∃ txt er, writeS ts = (txt, er) := ⟨_, _, rfl⟩
    rw [hw] at hwl
    simp only at hwl
    obtain ⟨s, hs1, hs2⟩ : ∃ s : ByteArray, s = ⟨txt.toArray⟩ ∧ s.data.toList = txt := ⟨_, rfl, rfl⟩
    have hsz : s.size ≤ 20000 := by rw [hs1]; exact hwl
    have W1 : ∀ (A : Option Addr) (c : Nat) (w : World), Toks w w.heap.size A ts → Calls Try.prog 16 #[.slice A ts.length c] w fun e w' => e = .returned (.tuple #[.string s, .int .i64 er]) ∧ Below w.heap.size w w' := by
      intro A c w h
      have := write_any ts A c w h (fun t ht => by have := HX.out t ht; omega) (by unfold maxLen; omega)
      rw [hw] at this
      rw [hs1]
      exact this
    have W2 : ∀ (A : Option Addr) (c : Nat) (w : World), Toks w w.heap.size A ts → Calls Try.prog 18 #[.slice A ts.length c] w fun e w' => e = .returned (.tuple #[.string s, .int .i64 er]) ∧ Below w.heap.size w w' := by
      intro A c w h
      have := refWrite_any ts A c w h HX.out (by omega)
      rw [hw] at this
      rw [hs1]
      exact this
    have V1 := Lib.hid W1
    have V2 := Lib.hid W2
    have CT := Lib.hid (fun w => tokens_any s (by unfold maxLen; omega) w)
    have HW := Lib.hid hw
    have HS2 := Lib.hid hs2
    clear hf W1 W2 hw hs1 hs2 hwl l3
    by_cases he : er = 0
    · subst he
      obtain ⟨b, hb1, hb2⟩ := write_read HW.out
      have hbl := read_len hb1
      have HSM := Lib.hid (sameR_of_same hb2)
      have HRB := Lib.hid hb1
      clear hb1 hb2
      go_enter Try.func4, Try.ntmps4
      go_wp2_with fail
      refine (awake_any _).mono ?_
      rintro e w1 ⟨rfl, hb1⟩
      have HA1 := Lib.hid (toks_up HA.out hb1)
      have HB1 := Lib.hid hb1
      clear hb1
      go_wp2_with fail
      refine (F1.out _ HA1.out).mono ?_
      rintro e w' ⟨rfl, rfl⟩
      go_wp2_with fail
      refine (clone_any ts A _ c _ (by omega) HA1.out).mono ?_
      rintro e w2 ⟨A2, c2, rfl, hT2, hb2⟩
      have HA2 := Lib.hid (toks_up HA1.out hb2)
      have HT2 := Lib.hid hT2
      have HB2 := Lib.hid (HB1.out.trans (hb2.mono HB1.out.size))
      clear hb2 hT2
      go_wp2_with fail
      refine (V1.out _ _ _ HT2.out).mono ?_
      rintro e w3 ⟨rfl, hb3⟩
      have HA3 := Lib.hid (toks_up HA2.out hb3)
      have HB3 := Lib.hid (HB2.out.trans (hb3.mono HB2.out.size))
      clear hb3
      go_wp2_with fail
      refine (V2.out _ _ _ HA3.out).mono ?_
      rintro e w4 ⟨rfl, hb4⟩
      have HA4 := Lib.hid (toks_up HA3.out hb4)
      have HB4 := Lib.hid (HB3.out.trans (hb4.mono HB3.out.size))
      clear hb4
      go_wp2_with fail
      refine (CT.out _).mono ?_
      rintro e w5 ⟨v, rfl, hown, hb5⟩
      rw [HS2.out, HRB.out] at hown ⊢
      obtain ⟨A5, c5, rfl, hT5⟩ := toks_of_own hown
      have HA5 := Lib.hid (toks_up HA4.out hb5)
      have HS5 := Lib.hid (refSame_any b ts A5 A c5 c w5 (by unfold maxLen; omega) (by unfold maxLen; omega) hT5 HA5.out)
      have HB5 := Lib.hid (HB4.out.trans (hb5.mono HB4.out.size))
      clear hb5 hown hT5
      go_wp2_with fail
      refine HS5.out.mono ?_
      rintro e w6 ⟨rfl, hb6⟩
      rw [HSM.out]
      go_wp2_with fail
      go_ret
      exact ⟨rfl, HB5.out.trans (hb6.mono HB5.out.size)⟩
    · have t1 : ((er : Int) != 0) = true := by simp; omega
      clear he
      go_enter Try.func4, Try.ntmps4
      go_wp2_with fail
      refine (awake_any _).mono ?_
      rintro e w1 ⟨rfl, hb1⟩
      have HA1 := Lib.hid (toks_up HA.out hb1)
      have HB1 := Lib.hid hb1
      clear hb1
      go_wp2_with fail
      refine (F1.out _ HA1.out).mono ?_
      rintro e w' ⟨rfl, rfl⟩
      go_wp2_with fail
      refine (clone_any ts A _ c _ (by omega) HA1.out).mono ?_
      rintro e w2 ⟨A2, c2, rfl, hT2, hb2⟩
      have HA2 := Lib.hid (toks_up HA1.out hb2)
      have HT2 := Lib.hid hT2
      have HB2 := Lib.hid (HB1.out.trans (hb2.mono HB1.out.size))
      clear hb2 hT2
      go_wp2_with fail
      refine (V1.out _ _ _ HT2.out).mono ?_
      rintro e w3 ⟨rfl, hb3⟩
      have HA3 := Lib.hid (toks_up HA2.out hb3)
      have HB3 := Lib.hid (HB2.out.trans (hb3.mono HB2.out.size))
      clear hb3
      go_wp2_with fail
      refine (V2.out _ _ _ HA3.out).mono ?_
      rintro e w4 ⟨rfl, hb4⟩
      have HB4 := Lib.hid (HB3.out.trans (hb4.mono HB3.out.size))
      clear hb4
      go_wp2_with fail
      go_ret
      exact ⟨rfl, HB4.out⟩

end Go.Proofs.Ytgaiknigdgoaeaa
namespace Go.Proofs.Ytgaiknigdgoaeaa.tokenWrite
open Go.ChangeShapes Go.WideShapes Go.ChangeAt Go.RowKit

set_option maxRecDepth 100000 in
theorem lifted (os : Os) (started : os.Started) (H : Type) (enc : TypeId × Value → H) :
    ReturnsInHanded {} Try.checked os 4 .any (Rows.tokenWriteSpec.pre6 enc Try.prog Try.f4 Rows.tokenWriteRow.domain false) (Rows.tokenWriteSpec.post enc Try.prog Try.f4 false true false false) := by
  refine returnsInHanded_of_change_sized (C := Try.checked) own started (by kernel_rfl) Try.func4
    (ChangeSpec.witness6 (enc := enc) (C := Try.checked) false ⟨#[], #[.slice none 0 0], []⟩ 8 (by kernel_rfl) (by kernel_rfl) (by kernel_rfl) (by kernel_rfl)) ?_
  intro W base args ds gs before hval0 hW hcnd hsz0 _
  have hsz : (DataW.weightsEach Try.prog (Try.f4.params.toList ++ Rows.tokenWriteSpec.plain.varTypes Try.prog) (ds ++ gs)).all (· ≤ reachBytes) = true := hsz0
  clear hsz0
  have hval : ∀ (j : Nat) t v, Try.f4.params[j]? = some t → args[j]? = some v → Value.okWide Try.prog W .any base t v := hval0
  have hW' := hW
  obtain ⟨p, q, hA0, hV, rfl, hfz, hnd⟩ := hW
  have hA : DataW.TrodAll enc Try.prog W 0 (fun _ => true) true Try.f4.params.toList args.toList ds p := hA0
  rw [Try.params4] at hA hval hsz
  obtain ⟨v0, d0, rfl, rfl, h0⟩ := trodAll_one hA
  obtain ⟨rfl, rfl⟩ := trodVars_none hV
  clear hA0 hval0
  simp only [List.append_nil] at hW'
  have hlt : ∀ x ∈ p, x.block < W.heap.size := fun x hx => by simpa using hW'.lt x (by simpa using hx)
  obtain ⟨a0, len0, cap0, rfl⟩ := okWide_slice Try.underlying23 (hval 0 23 v0 rfl rfl)
  have k0 := h0
  obtain ⟨f0, g0⟩ := h0
  obtain ⟨A0, ts0, c0, e0, hT0, hl0, hx0⟩ := open_toks g0 (fun n hn => by simpa using List.all_eq_true.1 hsz n (DataW.weights_mem_each (j := 0) rfl rfl n hn))
  simp [Value.cells] at e0
  obtain ⟨rfl, rfl, rfl⟩ := e0
  refine (lawWrite ts0 a0 cap0 W (by unfold reachBytes at hl0; omega) hx0 hT0).mono fun e W' ⟨he, hg⟩ => ?_
  subst he
  exact ⟨_, rfl, _, _, _, [], p, [], hW', trodAll_cons_mk (shut_bool Try.underlying4 _) trodAll_mk0, trodAll_mk1 (Below.trod laidOut (by kernel_rfl) (of_decide_eq_true (by kernel_rfl)) k0 hg (fun x hx => hlt x (hx))), rfl, hg.frame _, fun h => by cases h⟩

theorem over : Rows.tokenWriteRow.holds Try.pinned (OpenSpec.ofChange Rows.tokenWriteSpec) :=
  OpenClaim.holds_of_wide 4 Try.f4 rfl rfl rfl rfl rfl rfl rfl ⟨rfl, rfl, rfl, rfl, rfl⟩ rfl rfl rfl rfl rfl (by kernel_rfl) Try.func4 (by kernel_rfl)
    (of_decide_eq_true (by kernel_rfl)) (by unfold Func.isWrapper; first | (rw [if_pos (by decide +kernel)]; kernel_rfl) | (rw [if_neg (by decide +kernel)]; exact ⟨rfl, rfl⟩))
    (fun os started H enc _ => lifted os started H enc)

theorem proved : Rows.TokenWriteSaid := over

end Go.Proofs.Ytgaiknigdgoaeaa.tokenWrite
