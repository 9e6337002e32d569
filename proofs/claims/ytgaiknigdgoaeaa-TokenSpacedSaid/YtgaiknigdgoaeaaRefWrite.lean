/-
  The contract of the reference's Write, for few tokens.
-/
import Derived.Test.YtgaiknigdgoaeaaRight
import Derived.Test.YtgaiknigdgoaeaaWrite
import Derived.Test.YtgaiknigdgoaeaaOpen
namespace Go.Proofs.Ytgaiknigdgoaeaa
open Go.RowKit

theorem toks_lift {w w' : World} {A : Option Addr} {ts : List Tok} {B : Nat} (h : Toks w B A ts) (hb : Below B w w') : Toks w' B A ts := h.below hb

set_option maxRecDepth 100000 in
set_option maxHeartbeats 4000000 in
theorem refWrite_any (ts : List Tok) (A : Option Addr) (c : Nat) (w : World) (hT : Toks w w.heap.size A ts) (hx : ∀ t ∈ ts, t.text.length ≤ 3000) (hl : ts.length ≤ 4000) :
    Calls Try.prog 18 #[.slice A ts.length c] w fun e w' => e = .returned (.tuple #[.string ⟨(writeS ts).1.toArray⟩, .int .i64 (writeS ts).2]) ∧ Below w.heap.size w w' := by
  have HX := Lib.hid hx
  have HT := Lib.hid hT
  clear hx hT
  go_enter Try.func18, Try.ntmps18
  go_wp2_with fail
  go_loopw [5] (fun i wr => ∃ k : Nat, k ≤ ts.length ∧ i = .int .i64 k ∧ allRight (ts.take k) = true ∧ Below w.heap.size w wr) (fun i _ => ts.length - (intOf i).toNat)
  case atStart => exact ⟨0, Nat.zero_le _, rfl, rfl, Below.refl _ _⟩
  case round =>
    obtain ⟨k, hk, rfl, hr, hbel⟩ := hrel
    have HR := Lib.hid hr
    clear hr
    by_cases hlt : k < ts.length
    · obtain ⟨b, off, rfl, hb, c0, c1, c2⟩ := (HT.out.below hbel).at_ hlt
      have hxl := HX.out _ (List.getElem_mem hlt)
      have HC := Lib.hid (fun w => refRight_any ts[k].kind ⟨ts[k].text.toArray⟩ ts[k].line (show ts[k].text.length ≤ 900000 by omega) w)
      cases hrt : rightS ts[k].kind ts[k].text with
      | false =>
        have H := Lib.hid (writeS_bad (by omega) hlt hrt)
        have HRT := Lib.hid hrt
        clear hrt
        go_wp2_with fail
        refine (HC.out _).mono ?_
        rintro e w2 ⟨rfl, hb2⟩
        rw [show rightS ts[k].kind (⟨ts[k].text.toArray⟩ : ByteArray).data.toList = false from HRT.out]
        have HB2 := Lib.hid (hbel.trans (hb2.mono hbel.size))
        clear hb2
        go_wp2_with fail
        go_ret2
        exact ⟨by rw [H.out]; rfl, HB2.out⟩
      | true =>
        have HRT := Lib.hid hrt
        have HN := Lib.hid (show allRight (ts.take (k + 1)) = true by rw [allRight_snoc ts k hlt, HR.out, hrt]; rfl)
        clear hrt
        go_wp2_with fail
        refine (HC.out _).mono ?_
        rintro e w2 ⟨rfl, hb2⟩
        rw [show rightS ts[k].kind (⟨ts[k].text.toArray⟩ : ByteArray).data.toList = true from HRT.out]
        have HB2 := Lib.hid (hbel.trans (hb2.mono hbel.size))
        clear hb2
        go_wp2_with fail
        go_roundw
        case rel => exact ⟨k + 1, by omega, by go_num, HN.out, HB2.out⟩
        case measure => simp [intOf]; omega
    · have HR2 := Lib.hid (show allRight ts = true by
        have hr := HR.out
        rw [List.take_of_length_le (show ts.length ≤ k by omega)] at hr
        exact hr)
      have HB := Lib.hid hbel
      clear hbel
      obtain ⟨wo, rfl⟩ : ∃ wo : World, wo = wr := ⟨_, rfl⟩
      go_wp2_with fail
      go_loopw [4, 6] (fun o i wr => ∃ (j : Nat) (os : ByteArray), j ≤ ts.length ∧ i = .int .i64 j ∧ o = .string os ∧ os.data.toList = wtext (ts.take j) ∧ os.size ≤ 63 * j ∧ Below w.heap.size w wr) (fun _ i _ => ts.length - (intOf i).toNat)
      case atStart => exact ⟨0, ⟨#[]⟩, Nat.zero_le _, rfl, rfl, rfl, Nat.le_refl _, HB.out⟩
      case round =>
        obtain ⟨j, os, hj, rfl, rfl, hos, hoz, hbel⟩ := hrel
        have HOS := Lib.hid hos
        clear hos
        by_cases hjl : j < ts.length
        · obtain ⟨b, off, rfl, hb, c0, c1, c2⟩ := (HT.out.below hbel).at_ hjl
          have hxl := HX.out _ (List.getElem_mem hjl)
          have hrj : rightS ts[j].kind ts[j].text = true := by
            have := HR2.out
            unfold allRight at this
            rw [List.all_eq_true] at this
            exact this _ (List.getElem_mem hjl)
          obtain ⟨q, hq1, hq2, hq3⟩ : ∃ q : ByteArray, q.data.toList = quoteS ts[j].kind ts[j].text ∧ q.size ≤ 62 ∧
              ∀ w, Calls Try.prog 39 #[.agg #[.int .i64 ts[j].kind, .string ⟨ts[j].text.toArray⟩, .int .i64 ts[j].line]] w fun e w' => e = .returned (.string q) ∧ Below w.heap.size w w' :=
            ⟨⟨(quoteS ts[j].kind ts[j].text).toArray⟩, rfl, quote_len hrj, fun w => refText_any ts[j].kind ⟨ts[j].text.toArray⟩ ts[j].line (show ts[j].text.length ≤ 1000000 by omega) w⟩
          have HQ1 := Lib.hid hq1
          have HQ3 := Lib.hid hq3
          have HBEL := Lib.hid hbel
          have hwr := hbel.size
          clear hbel hq1 hq3 hrj
          rcases j with _ | j
          · simp only [Nat.zero_mul, Nat.add_zero] at c0 c1 c2
            have HF := Lib.hid (show wtext (ts.take 1) = wtext (ts.take 0) ++ quoteS ts[0].kind ts[0].text by
              rw [List.take_succ_eq_append_getElem hjl]
              simp [wtext, wmore])
            go_wp2_with fail
            go_quiet (fail)
            go_wp2_with fail
            refine (HQ3.out _).mono ?_
            rintro e w2 ⟨rfl, hb2⟩
            have HB2 := Lib.hid ((below_draws HBEL.out _).trans (hb2.mono hwr))
            clear hb2
            go_wp2_with fail
            go_roundw
            case rel => exact ⟨1, _, by omega, by go_num, rfl, by rw [ByteArray.data_append, Array.toList_append, HOS.out, HQ1.out, HF.out], by rw [ByteArray.size_append]; omega, HB2.out⟩
            case measure => simp [intOf]; omega
          · obtain ⟨b', off', hA', hb', d0, d1, d2⟩ := (HT.out.below HBEL.out).at_ (show j < ts.length by omega)
            injection hA' with hA'
            injection hA' with e1 e2
            subst e1 e2
            have hw : IntKind.i64.wrap (j : Int) = (j : Int) := IntWalk.i64_in _ (by omega)
            have hj0 : (0 : Int) ≤ (j : Int) := by omega
            have hj1 : (j : Int) < (ts.length : Int) := by omega
            have hj2 : ((j : Int)).toNat = j := by omega
            have hj3 : (0 : Int) ≤ (j : Int) + 1 := by omega
            have hj4 : (j : Int) + 1 < (ts.length : Int) := by omega
            have hj5 : ((j : Int) + 1).toNat = j + 1 := by omega
            have HF := Lib.hid (show wtext (ts.take (j + 1 + 1)) = wtext (ts.take (j + 1)) ++ (sepB ts[j].line ts[j+1].line :: quoteS ts[j+1].kind ts[j+1].text) by
              rw [List.take_succ_eq_append_getElem hjl]
              exact wtext_snoc _ _ _ (take_last (by omega)))
            by_cases hln : ts[j+1].line = ts[j].line
            · have t1 : (ts[j+1].line != ts[j].line) = false := by simpa using hln
              have HS := Lib.hid (show sepB ts[j].line ts[j+1].line = 32 by unfold sepB; rw [if_neg (by simpa using hln.symm)])
              clear hln
              go_wp2_with fail
              go_quiet (fail)
              go_wp2_with fail
              refine (HQ3.out _).mono ?_
              rintro e w2 ⟨rfl, hb2⟩
              have HB2 := Lib.hid ((below_draws HBEL.out _).trans (hb2.mono hwr))
              clear hb2
              go_wp2_with fail
              go_roundw
              case rel => exact ⟨j + 1 + 1, _, by omega, by go_num, rfl, by rw [ByteArray.data_append, Array.toList_append, ByteArray.data_append, Array.toList_append, HOS.out, HQ1.out, HF.out, HS.out]; simp, by rw [ByteArray.size_append, ByteArray.size_append, show (⟨#[32]⟩ : ByteArray).size = 1 from rfl]; omega, HB2.out⟩
              case measure => simp [intOf]; omega
            · have t1 : (ts[j+1].line != ts[j].line) = true := by simpa using hln
              have HS := Lib.hid (show sepB ts[j].line ts[j+1].line = 10 by unfold sepB; rw [if_pos (fun e => hln e.symm)])
              clear hln
              go_wp2_with fail
              go_quiet (fail)
              go_wp2_with fail
              refine (HQ3.out _).mono ?_
              rintro e w2 ⟨rfl, hb2⟩
              have HB2 := Lib.hid ((below_draws HBEL.out _).trans (hb2.mono hwr))
              clear hb2
              go_wp2_with fail
              go_roundw
              case rel => exact ⟨j + 1 + 1, _, by omega, by go_num, rfl, by rw [ByteArray.data_append, Array.toList_append, ByteArray.data_append, Array.toList_append, HOS.out, HQ1.out, HF.out, HS.out]; simp, by rw [ByteArray.size_append, ByteArray.size_append, show (⟨#[10]⟩ : ByteArray).size = 1 from rfl]; omega, HB2.out⟩
              case measure => simp [intOf]; omega
        · have hos2 : os.data.toList = wtext ts := by rw [HOS.out, List.take_of_length_le (by omega)]
          have hlen : os.size = (wtext ts).length := by rw [← hos2]; simp
          have HO2 := Lib.hid hos2
          by_cases h2 : 20000 < os.size
          · have H := Lib.hid (writeS_big (by omega) HR2.out (by rw [← hlen]; exact h2))
            clear hos2 hlen
            go_wp2_with fail
            go_ret2
            exact ⟨by rw [H.out]; rfl, hbel⟩
          · have H := Lib.hid (writeS_ok (by omega) HR2.out (by rw [← hlen]; exact h2))
            clear hos2 hlen
            go_wp2_with fail
            go_ret2
            refine ⟨?_, hbel⟩
            rw [H.out, show (⟨(wtext ts).toArray⟩ : ByteArray) = os from bytes_ext (by rw [HO2.out])]
            rfl

end Go.Proofs.Ytgaiknigdgoaeaa
