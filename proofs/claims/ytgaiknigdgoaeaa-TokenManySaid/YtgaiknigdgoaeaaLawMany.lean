/-
  TokenMany: for every two numbers the law returns true. No condition.
-/
import Derived.Test.YtgaiknigdgoaeaaMany
import Derived.Test.YtgaiknigdgoaeaaAwake
import Derived.ProofKit
import Derived.OpenShut
namespace Go.Proofs.Ytgaiknigdgoaeaa
open Go.RowKit

theorem own : ownKnob Try.prog.godebug = none := by kernel_rfl

set_option maxRecDepth 100000 in
set_option maxHeartbeats 4000000 in
theorem lawMany (n r : Nat) (hn : n < 65536) (hr : r < 256) (w : World) :
    Calls Try.prog 10 #[.int .u16 n, .int .u8 r] w fun e w' => e = .returned (.bool true) ∧ Below w.heap.size w w' := by
  obtain ⟨c, hc⟩ : ∃ c, c = 3990 + n % 20 := ⟨_, rfl⟩
  have HC := Lib.hid hc
  have hc1 : c ≤ 4009 := by omega
  have hc0 : 3990 ≤ c := by omega
  clear hc
  go_enter Try.func10, Try.ntmps10
  go_wp2_with fail
  refine (awake_any _).mono ?_
  rintro e w1 ⟨rfl, hb1⟩
  have HB1 := Lib.hid hb1
  clear hb1
  go_wp2_with fail
  obtain ⟨wd, hwd⟩ : ∃ wd, wd = 1 + r := ⟨_, rfl⟩
  have hce : (3990 : Int) + (n : Int) % 20 = (c : Int) := by have := HC.out; omega
  have hwe : (1 : Int) + (r : Int) = (wd : Int) := by omega
  have hw1 : 1 ≤ wd := by omega
  have hw2 : wd ≤ 256 := by omega
  rw [hce, hwe]
  have HTM := Lib.hid (toks_many wd c hw1 (by omega))
  clear hce hwe hwd
  have hz0 : w.heap.size ≤ w1.heap.size := HB1.out.size
  go_loopw [22] (fun i wr => ∃ k : Nat, k ≤ c ∧ i = .int .i64 k ∧ Lib.IsBuilder 40 5 w1.heap.size w1.heap.size (Lib.byteCells (pfx wd k)) wr ∧ Below w.heap.size w wr ∧ w1.heap.size < wr.heap.size) (fun i _ => c - (intOf i).toNat)
  case atStart => exact ⟨0, Nat.zero_le _, rfl, Lib.fresh_isBuilder _ _ _, HB1.out.alloc hz0 _, by simp⟩
  case round =>
    obtain ⟨k, hk, rfl, hI, hbel, hsz⟩ := hrel
    have HI := Lib.hid hI
    clear hI
    have hpl := pfx_len wd k
    by_cases hlt : k < c
    · obtain ⟨st, hst, hsl⟩ : ∃ st : ByteArray, (({ data := #[97, 59] } : ByteArray).extract (k % 2) (k % 2 + 1)) = st ∧ st.data.toList = [tokb k] := by
        refine ⟨_, rfl, ?_⟩
        rw [Lib.extract_data]
        unfold tokb
        rcases Nat.mod_two_eq_zero_or_one k with h | h <;> rw [h] <;> rfl
      have hss : st.size = 1 := by
        have : st.data.toList.length = st.size := by simp
        rw [hsl] at this
        simpa using this.symm
      have HST := Lib.hid hst
      have HSL := Lib.hid hsl
      have HSS := Lib.hid hss
      clear hst hsl hss
      have p1 : (0 : Int) ≤ (k : Int) % 2 := by omega
      have p2 : (k : Int) % 2 ≤ 1 := by omega
      by_cases hf : 0 < k ∧ k % wd = 0
      · have HF := Lib.hid (show pfx wd (k + 1) = pfx wd k ++ ([10] ++ [tokb k]) by simp [pfx, feed, hf])
        have t1 : (((k : Int) % (wd : Int)) == 0) = true := by
          have h := hf.2
          rw [beq_iff_eq]
          omega
        have hk0 := hf.1
        clear hf
        go_wp2_with fail
        refine (writeString_any _ _ _ _ _ HI.out ?b1 ?b2).mono ?_
        case b1 => rw [Lib.byteCells_length]; show _ + 1 ≤ _; omega
        case b2 => omega
        rintro e w2 ⟨rfl, hI2, hb2, _⟩
        have HI2 := Lib.hid (show Lib.IsBuilder 40 5 w1.heap.size w1.heap.size _ w2 from .inr hI2)
        have HB2 := Lib.hid hb2
        clear hI2 hb2
        go_wp2_with fail
        rw [HST.out]
        refine (writeString_any _ _ _ _ _ HI2.out ?b3 ?b4).mono ?_
        case b3 => rw [List.length_append, Lib.byteCells_length, HSS.out]; show _ + 1 + 1 ≤ _; omega
        case b4 => have := HB2.out.size; omega
        rintro e w3 ⟨rfl, hI3, hb3, _⟩
        have HI3 := Lib.hid hI3
        have HB3 := Lib.hid hb3
        clear hI3 hb3
        go_wp2_with fail
        go_roundw
        case rel =>
          refine ⟨k + 1, by omega, by go_num, .inr ?_, hbel.trans ((HB2.out.trans HB3.out).mono hz0), by have := HB2.out.size; have := HB3.out.size; omega⟩
          have := HI3.out
          rw [Lib.strCells_eq, Lib.strCells_eq, HSL.out, List.append_assoc, ← Lib.byteCells_append, ← Lib.byteCells_append] at this
          rw [HF.out]
          exact this
        case measure => simp [intOf]; omega
      · have HF := Lib.hid (show pfx wd (k + 1) = pfx wd k ++ [tokb k] by simp [pfx, feed, hf])
        by_cases hk0 : 0 < k
        · have t1 : (((k : Int) % (wd : Int)) == 0) = false := by
            have h : ¬ k % wd = 0 := fun h => hf ⟨hk0, h⟩
            rw [beq_eq_false_iff_ne]
            omega
          clear hf
          go_wp2_with fail
          rw [HST.out]
          refine (writeString_any _ _ _ _ _ HI.out ?b3 ?b4).mono ?_
          case b3 => rw [Lib.byteCells_length, HSS.out]; omega
          case b4 => omega
          rintro e w3 ⟨rfl, hI3, hb3, _⟩
          have HI3 := Lib.hid hI3
          have HB3 := Lib.hid hb3
          clear hI3 hb3
          go_wp2_with fail
          go_roundw
          case rel =>
            refine ⟨k + 1, by omega, by go_num, .inr ?_, hbel.trans (HB3.out.mono hz0), by have := HB3.out.size; omega⟩
            have := HI3.out
            rw [Lib.strCells_eq, HSL.out, ← Lib.byteCells_append] at this
            rw [HF.out]
            exact this
          case measure => simp [intOf]; omega
        · obtain rfl : k = 0 := by omega
          clear hf
          have hst0 : (({ data := #[97, 59] } : ByteArray).extract 0 1) = st := HST.out
          have HST0 := Lib.hid hst0
          clear hst0
          go_wp2_with fail
          rw [HST0.out]
          refine (writeString_any _ _ _ _ _ HI.out ?b3 ?b4).mono ?_
          case b3 => rw [Lib.byteCells_length, HSS.out]; omega
          case b4 => omega
          rintro e w3 ⟨rfl, hI3, hb3, _⟩
          have HI3 := Lib.hid hI3
          have HB3 := Lib.hid hb3
          clear hI3 hb3
          go_wp2_with fail
          go_roundw
          case rel =>
            refine ⟨1, by omega, by go_num, .inr ?_, hbel.trans (HB3.out.mono hz0), by have := HB3.out.size; omega⟩
            have := HI3.out
            rw [Lib.strCells_eq, HSL.out, ← Lib.byteCells_append] at this
            have hf1 := HF.out
            rw [hf1]
            exact this
          case measure => simp [intOf]; omega
    · obtain rfl : k = c := by omega
      have CT := Lib.hid (fun w => tokens_any ⟨(pfx wd k).toArray⟩ (show (pfx wd k).length ≤ maxLen by unfold maxLen; omega) w)
      by_cases h4 : k ≤ 4000
      · obtain ⟨ts, ht1, ht2⟩ := HTM.out.1 h4
        have CT2 : ∀ w, Calls Try.prog 12 #[.string ⟨(pfx wd k).toArray⟩] w fun e w' => ∃ ao cap, e = .returned (.tuple #[.slice ao k cap, .int .i64 0, .int .i64 0]) ∧ Below w.heap.size w w' := by
          intro w
          refine (CT.out w).mono ?_
          rintro e w3 ⟨v, rfl, hown, hb3⟩
          rw [ht1] at hown ⊢
          rw [ht2] at hown
          obtain ⟨ao, cap, rfl⟩ := slice_of hown
          exact ⟨ao, cap, rfl, hb3⟩
        have CT3 := Lib.hid CT2
        clear ht1 ht2 CT2
        go_wp2_with fail
        refine (Try.Builder_String_any _ _ _ _ HI.out (by omega)).mono ?_
        rintro e w2 ⟨rfl, hb2⟩
        have HB2 := Lib.hid (hbel.trans (hb2.mono hz0))
        clear hb2
        go_wp2_with fail
        refine (CT3.out _).mono ?_
        rintro e w3 ⟨ao, cap, rfl, hb3⟩
        have HB3 := Lib.hid (HB2.out.trans (hb3.mono HB2.out.size))
        clear hb3
        go_wp2_with fail
        go_ret
        exact ⟨rfl, HB3.out⟩
      · have ht1 := HTM.out.2 (by omega)
        have CT2 : ∀ w, Calls Try.prog 12 #[.string ⟨(pfx wd k).toArray⟩] w fun e w' => ∃ ao cap, e = .returned (.tuple #[.slice ao 0 cap, .int .i64 (1 + (4000 / wd : Nat)), .int .i64 3]) ∧ Below w.heap.size w w' := by
          intro w
          refine (CT.out w).mono ?_
          rintro e w3 ⟨v, rfl, hown, hb3⟩
          rw [ht1] at hown ⊢
          obtain ⟨ao, cap, rfl⟩ := slice_of hown
          exact ⟨ao, cap, by simp, hb3⟩
        have hqi : (4000 : Int) / (wd : Int) = ((4000 / wd : Nat) : Int) := by simp
        have hqt : (4000 : Int).tdiv (wd : Int) = ((4000 / wd : Nat) : Int) := by rw [Int.tdiv_eq_ediv_of_nonneg (by omega)]; exact hqi
        have hqb : 4000 / wd ≤ 4000 := Nat.div_le_self _ _
        generalize 4000 / wd = q at CT2 hqi hqt hqb
        have CT3 := Lib.hid CT2
        clear ht1 CT2 HTM
        go_wp2_with fail
        refine (Try.Builder_String_any _ _ _ _ HI.out (by omega)).mono ?_
        rintro e w2 ⟨rfl, hb2⟩
        have HB2 := Lib.hid (hbel.trans (hb2.mono hz0))
        clear hb2
        go_wp2_with fail
        refine (CT3.out _).mono ?_
        rintro e w3 ⟨ao, cap, rfl, hb3⟩
        have HB3 := Lib.hid (HB2.out.trans (hb3.mono HB2.out.size))
        clear hb3
        have hd0 : ((wd : Int) == 0) = false := by simp; omega
        go_wp2_with fail
        go_ret
        exact ⟨rfl, HB3.out⟩

end Go.Proofs.Ytgaiknigdgoaeaa
namespace Go.Proofs.Ytgaiknigdgoaeaa.tokenMany
open Go.ChangeShapes Go.WideShapes Go.ChangeAt Go.RowKit

set_option maxRecDepth 100000 in
theorem lifted (os : Os) (started : os.Started) (H : Type) (enc : TypeId × Value → H) :
    ReturnsInHanded {} Try.checked os 10 .any (Rows.tokenManySpec.pre6 enc Try.prog Try.f10 Rows.tokenManyRow.domain false) (Rows.tokenManySpec.post enc Try.prog Try.f10 false true false false) := by
  refine returnsInHanded_of_change (C := Try.checked) own started (by kernel_rfl) Try.func10
    (ChangeSpec.witness6 (enc := enc) (C := Try.checked) false ⟨#[], #[.int .u16 0, .int .u8 0], []⟩ 8 (by kernel_rfl) (by kernel_rfl) (by kernel_rfl) (by kernel_rfl)) ?_
  intro W base args ds gs before hval0 hW hcnd _
  have hval : ∀ (j : Nat) t v, Try.f10.params[j]? = some t → args[j]? = some v → Value.okWide Try.prog W .any base t v := hval0
  have hW' := hW
  obtain ⟨p, q, hA0, hV, rfl, hfz, hnd⟩ := hW
  have hA : DataW.TrodAll enc Try.prog W 0 (fun _ => true) true Try.f10.params.toList args.toList ds p := hA0
  rw [Try.params10] at hA hval
  obtain ⟨v0, vs0, d0, ds0, p0, q0, hargs, rfl, rfl, h0, r0⟩ := trodAll_cons hA
  obtain ⟨v1, vs1, d1, ds1, p1, q1, rfl, rfl, rfl, h1, r1⟩ := trodAll_cons r0
  obtain ⟨rfl, rfl, rfl⟩ := trodAll_nil r1
  obtain rfl : args = #[v0, v1] := by cases args; simp_all
  obtain ⟨rfl, rfl⟩ := trodVars_none hV
  obtain ⟨x0, rfl, rfl, rfl, w0⟩ := open_int Try.underlying50 (hval 0 50 v0 rfl rfl) h0
  obtain ⟨x1, rfl, rfl, rfl, w1⟩ := open_int Try.underlying5 (hval 1 5 v1 rfl rfl) h1
  clear hA0 hval0
  simp only [List.append_nil] at hW'
  have b0 : 0 ≤ x0 ∧ x0 ≤ 65535 := by
    simp only [Lit.wf, Bool.and_eq_true, decide_eq_true_eq] at w0
    exact w0
  have b1 : 0 ≤ x1 ∧ x1 ≤ 255 := by
    simp only [Lit.wf, Bool.and_eq_true, decide_eq_true_eq] at w1
    exact w1
  obtain ⟨n, rfl⟩ := Int.eq_ofNat_of_zero_le b0.1
  obtain ⟨r, rfl⟩ := Int.eq_ofNat_of_zero_le b1.1
  refine (lawMany n r (by omega) (by omega) W).mono fun e W' ⟨he, hg⟩ => ?_
  subst he
  exact ⟨_, rfl, _, _, _, [], [], [], hW', trodAll_cons_mk (shut_bool Try.underlying4 _) trodAll_mk0, trodAll_cons_mk (shut_int Try.underlying50 w0) (trodAll_cons_mk (shut_int Try.underlying5 w1) trodAll_mk0), rfl, hg.frame _, fun h => by cases h⟩

theorem over : Rows.tokenManyRow.holds Try.pinned (OpenSpec.ofChange Rows.tokenManySpec) :=
  OpenClaim.holds_of_wide 10 Try.f10 rfl rfl rfl rfl rfl rfl rfl ⟨rfl, rfl, rfl, rfl, rfl⟩ rfl rfl rfl rfl rfl (by kernel_rfl) Try.func10 (by kernel_rfl)
    (of_decide_eq_true (by kernel_rfl)) (by unfold Func.isWrapper; first | (rw [if_pos (by decide +kernel)]; kernel_rfl) | (rw [if_neg (by decide +kernel)]; exact ⟨rfl, rfl⟩))
    (fun os started H enc _ => lifted os started H enc)

theorem proved : Rows.TokenManySaid := over

end Go.Proofs.Ytgaiknigdgoaeaa.tokenMany
