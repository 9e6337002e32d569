/-
  The contract of the program's Write: it returns the text of tokens, or the error.
-/
import Derived.Test.YtgaiknigdgoaeaaTokens
import Derived.Test.YtgaiknigdgoaeaaBuilder
import Derived.Outline
import Derived.StillTailTactics
import Derived.IntWalk
import Derived.Deep.RegionWith
import Derived.RegionTactic
import Derived.ChangeAlike
namespace Go.Proofs.Ytgaiknigdgoaeaa
open Go.RowKit

/-- a slice of tokens, below block B -/
def Toks (w : World) (B : Nat) (A : Option Addr) (ts : List Tok) : Prop :=
  ts = [] ∨ ∃ b off, A = some ⟨b, off, none⟩ ∧ b < B ∧ ∀ i t, ts[i]? = some t →
    w.cell? ⟨b, off + i * 3, none⟩ = some (.int .i64 t.kind) ∧ w.cell? ⟨b, off + i * 3 + 1, none⟩ = some (.string ⟨t.text.toArray⟩) ∧ w.cell? ⟨b, off + i * 3 + 2, none⟩ = some (.int .i64 t.line)

theorem Toks.below {w w' : World} {B : Nat} {A : Option Addr} {ts : List Tok} (h : Toks w B A ts) (hb : Below B w w') : Toks w' B A ts := by
  rcases h with h | ⟨b, off, rfl, hlt, h⟩
  · exact .inl h
  · refine .inr ⟨b, off, rfl, hlt, fun i t ht => ?_⟩
    obtain ⟨h1, h2, h3⟩ := h i t ht
    exact ⟨(hb.cell (p := ⟨b, _, none⟩) hlt).trans h1, (hb.cell (p := ⟨b, _, none⟩) hlt).trans h2, (hb.cell (p := ⟨b, _, none⟩) hlt).trans h3⟩

theorem Toks.at_ {w : World} {B : Nat} {A : Option Addr} {ts : List Tok} (h : Toks w B A ts) {k : Nat} (hk : k < ts.length) : ∃ b off, A = some ⟨b, off, none⟩ ∧ b < B ∧
    w.cell? ⟨b, off + k * 3, none⟩ = some (.int .i64 ts[k].kind) ∧ w.cell? ⟨b, off + k * 3 + 1, none⟩ = some (.string ⟨ts[k].text.toArray⟩) ∧ w.cell? ⟨b, off + k * 3 + 2, none⟩ = some (.int .i64 ts[k].line) := by
  rcases h with h | ⟨b, off, rfl, hlt, h⟩
  · rw [h] at hk; simp at hk
  · obtain ⟨h1, h2, h3⟩ := h k ts[k] (List.getElem?_eq_getElem hk)
    exact ⟨b, off, rfl, hlt, h1, h2, h3⟩

theorem box_facts (w : World) (t : Tok) : let W := w.alloc (.cells #[.int .i64 t.kind, .string ⟨t.text.toArray⟩, .int .i64 t.line] 29)
    W.cell? ⟨w.heap.size, 0, none⟩ = some (.int .i64 t.kind) ∧ W.cell? ⟨w.heap.size, 1, none⟩ = some (.string ⟨t.text.toArray⟩) ∧ W.cell? ⟨w.heap.size, 2, none⟩ = some (.int .i64 t.line) ∧
      W.heap[w.heap.size]? = some (.cells #[.int .i64 t.kind, .string ⟨t.text.toArray⟩, .int .i64 t.line] 29 (0, 0)) := by
  have h : (w.alloc (.cells #[.int .i64 t.kind, .string ⟨t.text.toArray⟩, .int .i64 t.line] 29)).heap[w.heap.size]? = some (.cells #[.int .i64 t.kind, .string ⟨t.text.toArray⟩, .int .i64 t.line] 29 (0, 0)) := heap_alloc_new w _
  exact ⟨Lib.cell_of_heap h 0, Lib.cell_of_heap h 1, Lib.cell_of_heap h 2, h⟩

set_option maxHeartbeats 4000000 in
theorem write_any (ts : List Tok) (A : Option Addr) (c : Nat) (w : World) (hT : Toks w w.heap.size A ts) (hx : ∀ t ∈ ts, t.text.length ≤ 1000000) (hl : ts.length ≤ maxLen) :
    Calls Try.prog 16 #[.slice A ts.length c] w fun e w' => e = .returned (.tuple #[.string ⟨(writeS ts).1.toArray⟩, .int .i64 (writeS ts).2]) ∧ Below w.heap.size w w' := by
  unfold maxLen at hl
  by_cases h4 : 4000 < ts.length
  · have H := Lib.hid (writeS_long h4)
    go_enter Try.func16, Try.ntmps16
    go_wp2
    go_ret2
    exact ⟨by rw [H.out]; rfl, Below.refl _ _⟩
  · have HX := Lib.hid hx
    have HT := Lib.hid hT
    clear hx hT hl
    go_enter Try.func16, Try.ntmps16
    go_wp2
    go_loopw [12] (fun i wr => ∃ k : Nat, k ≤ ts.length ∧ i = .int .i64 k ∧ allRight (ts.take k) = true ∧ Lib.IsBuilder 40 5 w.heap.size w.heap.size (Lib.byteCells (wtext (ts.take k))) wr ∧ Below w.heap.size w wr ∧ w.heap.size < wr.heap.size) (fun i _ => ts.length - (intOf i).toNat)
    case atStart => exact ⟨0, Nat.zero_le _, rfl, rfl, Lib.fresh_isBuilder _ _ _, (Below.refl _ _).alloc (Nat.le_refl _) _, by simp⟩
    case round =>
      obtain ⟨k, hk, rfl, hr, hI, hbel, hsz⟩ := hrel
      have HR := Lib.hid hr
      have HI := Lib.hid hI
      clear hr hI
      by_cases hlt : k < ts.length
      · obtain ⟨b, off, rfl, hb, c0, c1, c2⟩ := (HT.out.below hbel).at_ hlt
        have hmem : ts[k] ∈ ts := List.getElem_mem hlt
        have hxl := HX.out _ hmem
        have HC := Lib.hid (fun w => isText_any ts[k].kind ⟨ts[k].text.toArray⟩ (show ts[k].text.length ≤ maxLen by unfold maxLen; omega) w)
        cases hrt : rightS ts[k].kind ts[k].text with
        | false =>
          have H := Lib.hid (writeS_bad h4 hlt hrt)
          have HRT := Lib.hid hrt
          clear hrt hmem
          go_wp2_with fail
          refine (HC.out _).mono ?_
          rintro e w' ⟨rfl, rfl⟩
          rw [show rightS ts[k].kind (⟨ts[k].text.toArray⟩ : ByteArray).data.toList = false from HRT.out]
          go_wp2_with fail
          go_ret2
          exact ⟨by rw [H.out]; rfl, hbel.alloc (by omega) _⟩
        | true =>
          have HRT := Lib.hid hrt
          have HN := Lib.hid (show allRight (ts.take (k + 1)) = true by rw [allRight_snoc ts k hlt, HR.out, hrt]; rfl)
          have hq62 := quote_len hrt
          have hlb : (wtext (ts.take k)).length ≤ 63 * 4000 := by
            have := wtext_le _ HR.out
            have h5 : (ts.take k).length ≤ 4000 := by rw [List.length_take]; omega
            omega
          have HQ := Lib.hid (fun w => quote_any ts[k].kind ⟨ts[k].text.toArray⟩ ts[k].line hxl w)
          clear hrt hmem
          rcases k with _ | j
          · simp only [Nat.zero_mul, Nat.add_zero] at c0 c1 c2
            go_wp2_with fail
            refine (HC.out _).mono ?_
            rintro e w' ⟨rfl, rfl⟩
            rw [show rightS ts[0].kind (⟨ts[0].text.toArray⟩ : ByteArray).data.toList = true from HRT.out]
            go_wp2_with fail
            have hbb := (Below.refl wr.heap.size wr).alloc (Nat.le_refl _) (.cells #[.int .i64 ts[0].kind, .string ⟨ts[0].text.toArray⟩, .int .i64 ts[0].line] 29)
            have hI1 := isBuilder_kept HI.out hbb
            have hs1 : (wr.alloc (.cells #[.int .i64 ts[0].kind, .string ⟨ts[0].text.toArray⟩, .int .i64 ts[0].line] 29)).heap.size = wr.heap.size + 1 := by simp
            generalize wr.alloc (.cells #[.int .i64 ts[0].kind, .string ⟨ts[0].text.toArray⟩, .int .i64 ts[0].line] 29) = W1 at hbb hI1 hs1 ⊢
            have HIQ := Lib.hid hI1
            have HZQ := Lib.hid (show w.heap.size < W1.heap.size by omega)
            have HBQ := Lib.hid (show Below w.heap.size w W1 from hbel.trans (hbb.mono (by omega)))
            clear hI1 hs1 c0 c1 c2 hbb
            refine (HQ.out _).mono ?_
            rintro e w4 ⟨rfl, hb4⟩
            have HB4 := Lib.hid hb4
            clear hb4
            go_wp2_with fail
            refine (writeString_any _ _ _ _ _ (isBuilder_kept HIQ.out HB4.out) ?bl1 ?bl2).mono ?_
            case bl1 => rw [Lib.byteCells_length]; simp only [List.take_zero, wtext, List.length_nil]; show 0 + (quoteS ts[0].kind ts[0].text).length ≤ _; omega
            case bl2 => have := HB4.out.size; have := HZQ.out; omega
            rintro e w5 ⟨rfl, hI5, hb5, _⟩
            have HI5 := Lib.hid hI5
            have HB5 := Lib.hid hb5
            clear hI5 hb5
            go_wp2_with fail
            go_roundw
            case rel =>
              refine ⟨1, by omega, by go_num, HN.out, .inr ?_, ?_, ?_⟩
              · have := HI5.out
                rw [Lib.strCells_eq, ← Lib.byteCells_append] at this
                have e : wtext (ts.take 1) = wtext (ts.take 0) ++ quoteS ts[0].kind ts[0].text := by
                  rw [List.take_succ_eq_append_getElem hlt]
                  simp [wtext, wmore]
                rw [e]
                exact this
              · exact (HBQ.out.trans (HB4.out.mono (Nat.le_of_lt HZQ.out))).trans HB5.out
              · have := HB5.out.size
                have := HB4.out.size
                have := HZQ.out
                omega
            case measure => simp [intOf]; omega
          · go_wp2_with fail
            refine (HC.out _).mono ?_
            rintro e w' ⟨rfl, rfl⟩
            rw [show rightS ts[j+1].kind (⟨ts[j+1].text.toArray⟩ : ByteArray).data.toList = true from HRT.out]
            go_wp2_with fail
            have hbox := box_facts wr ts[j+1]
            have hbb := (Below.refl wr.heap.size wr).alloc (Nat.le_refl _) (.cells #[.int .i64 ts[j+1].kind, .string ⟨ts[j+1].text.toArray⟩, .int .i64 ts[j+1].line] 29)
            obtain ⟨b', off', hA', hb', p0, p1, p2⟩ := ((HT.out.below hbel).below (hbb.mono (by omega))).at_ (show j < ts.length by omega)
            have hI1 := isBuilder_kept HI.out hbb
            have hs1 : (wr.alloc (.cells #[.int .i64 ts[j+1].kind, .string ⟨ts[j+1].text.toArray⟩, .int .i64 ts[j+1].line] 29)).heap.size = wr.heap.size + 1 := by simp
            injection hA' with hA'
            injection hA' with e1 e2
            subst e1 e2
            clear c0 c1 c2
            generalize wr.alloc (.cells #[.int .i64 ts[j+1].kind, .string ⟨ts[j+1].text.toArray⟩, .int .i64 ts[j+1].line] 29) = W1 at hbox hbb p0 p1 p2 hI1 hs1 ⊢
            obtain ⟨q0, q1, q2, qb⟩ := hbox
            have HI1 := Lib.hid hI1
            have HS1 := Lib.hid hs1
            have QB := Lib.hid qb
            clear hI1 hs1 qb
            have hw : IntKind.i64.wrap (j : Int) = (j : Int) := IntWalk.i64_in _ (by omega)
            have hj0 : (0 : Int) ≤ (j : Int) := by omega
            have hj1 : (j : Int) < (ts.length : Int) := by omega
            have hj2 : ((j : Int)).toNat = j := by omega
            go_still_tail 6, (by kernel_rfl)
            change wpList _ _ _ _ _ W1.drew
            go_wp2_with fail
            refine (separator_any _ _ _ _ _ _ _).mono ?_
            rintro e w2 ⟨rfl, hb2⟩
            have hb2' : Below W1.heap.size W1 w2 := ⟨hb2.os, hb2.tape, hb2.output, hb2.size, hb2.block⟩
            have HB2 := Lib.hid hb2'
            clear hb2 hb2'
            go_wp2_with fail
            refine (writeByte_any _ _ _ _ _ (isBuilder_kept HI1.out HB2.out) ?bl3 ?bl4).mono ?_
            case bl3 => rw [Lib.byteCells_length]; omega
            case bl4 => have := HB2.out.size; have := HS1.out; omega
            rintro e w3 ⟨rfl, hI3, hb3, hst3⟩
            have hne : wr.heap.size ≠ w.heap.size := by omega
            have hx2 : w2.heap[wr.heap.size]? = some (.cells #[.int .i64 ts[j+1].kind, .string ⟨ts[j+1].text.toArray⟩, .int .i64 ts[j+1].line] 29 (0, 0)) :=
              (HB2.out.block wr.heap.size (by have := HS1.out; omega)).trans QB.out
            have hx3 : w3.heap[wr.heap.size]? = some (.cells #[.int .i64 ts[j+1].kind, .string ⟨ts[j+1].text.toArray⟩, .int .i64 ts[j+1].line] 29 (0, 0)) := by
              rw [hst3 wr.heap.size (by have := HB2.out.size; have := HS1.out; omega) hne (by intro cs fr; rw [hx2]; simp), hx2]
            have r0 : w3.cell? ⟨wr.heap.size, 0, none⟩ = some (.int .i64 ts[j+1].kind) := by rw [Lib.cell_of_heap hx3]; rfl
            have r1 : w3.cell? ⟨wr.heap.size, 1, none⟩ = some (.string ⟨ts[j+1].text.toArray⟩) := by rw [Lib.cell_of_heap hx3]; rfl
            have r2 : w3.cell? ⟨wr.heap.size, 2, none⟩ = some (.int .i64 ts[j+1].line) := by rw [Lib.cell_of_heap hx3]; rfl
            have HIQ := Lib.hid (show Lib.IsBuilder 40 5 w.heap.size w.heap.size _ w3 from .inr hI3)
            have HZQ := Lib.hid (show w.heap.size < w3.heap.size by have := hb3.size; have := HB2.out.size; have := HS1.out; omega)
            have HBQ := Lib.hid (show Below w.heap.size w w3 from ((hbel.trans (hbb.mono (by omega))).trans (HB2.out.mono (by have := HS1.out; omega))).trans hb3)
            clear hI3 hb3 hst3 hx2 hx3 q0 q1 q2 p0 p1 p2 hbb hne
            go_wp2_with fail
            refine (HQ.out _).mono ?_
            rintro e w4 ⟨rfl, hb4⟩
            have HB4 := Lib.hid hb4
            clear hb4
            go_wp2_with fail
            refine (writeString_any _ _ _ _ _ (isBuilder_kept HIQ.out HB4.out) ?bl1 ?bl2).mono ?_
            case bl1 => rw [List.length_append, Lib.byteCells_length]; show _ + 1 + (quoteS ts[j+1].kind ts[j+1].text).length ≤ _; omega
            case bl2 => have := HB4.out.size; have := HZQ.out; omega
            rintro e w5 ⟨rfl, hI5, hb5, _⟩
            have HI5 := Lib.hid hI5
            have HB5 := Lib.hid hb5
            clear hI5 hb5
            go_wp2_with fail
            go_roundw
            case rel =>
              refine ⟨j + 1 + 1, by omega, by go_num, HN.out, .inr ?_, ?_, ?_⟩
              · have := HI5.out
                rw [Lib.strCells_eq] at this
                have e : wtext (ts.take (j + 1 + 1)) = wtext (ts.take (j + 1)) ++ (sepB ts[j].line ts[j+1].line :: quoteS ts[j+1].kind ts[j+1].text) := by
                  rw [List.take_succ_eq_append_getElem hlt]
                  exact wtext_snoc _ _ _ (take_last (by omega))
                have e2 : Lib.byteCells (wtext (ts.take (j + 1 + 1))) = Lib.byteCells (wtext (ts.take (j + 1))) ++ [Value.int .u8 (sepB ts[j].line ts[j+1].line).toNat] ++ Lib.byteCells (quoteS ts[j+1].kind ts[j+1].text) := by
                  rw [e, Lib.byteCells_append, List.append_assoc]; rfl
                rw [e2]
                exact this
              · exact (HBQ.out.trans (HB4.out.mono (Nat.le_of_lt HZQ.out))).trans HB5.out
              · have := HB5.out.size
                have := HB4.out.size
                have := HZQ.out
                omega
            case measure => simp [intOf]; omega
      · have H1 := Lib.hid (show ts.take k = ts from List.take_of_length_le (by omega))
        have hlen : (wtext ts).length ≤ 63 * 4000 := by
          have hr := HR.out
          rw [H1.out] at hr
          have := wtext_le _ hr
          omega
        have HI2 : Lib.IsBuilder 40 5 w.heap.size w.heap.size (Lib.byteCells (wtext ts)) wr := by
          have := HI.out
          rw [H1.out] at this
          exact this
        have HR2 : allRight ts = true := by
          have hr := HR.out
          rw [H1.out] at hr
          exact hr
        by_cases h2 : 20000 < (wtext ts).length
        · have H := Lib.hid (writeS_big h4 HR2 h2)
          have HL := Lib.hid (fun w => Try.Builder_Len w)
          have HI3 := Lib.hid HI2
          clear HI2 HR2
          go_wp2_with fail
          refine (Try.Builder_Len _ _ _ _ HI3.out).mono ?_
          rintro e w' ⟨rfl, rfl⟩
          rw [Lib.byteCells_length]
          go_wp2_with fail
          go_ret2
          exact ⟨by rw [H.out]; rfl, hbel⟩
        · have H := Lib.hid (writeS_ok h4 HR2 h2)
          have HI3 := Lib.hid HI2
          clear HI2 HR2
          go_wp2_with fail
          refine (Try.Builder_Len _ _ _ _ HI3.out).mono ?_
          rintro e w' ⟨rfl, rfl⟩
          rw [Lib.byteCells_length]
          go_wp2_with fail
          refine (Try.Builder_String_any _ _ _ _ HI3.out (by omega)).mono ?_
          rintro e w' ⟨rfl, hb3⟩
          go_wp2_with fail
          go_ret2
          exact ⟨by rw [H.out]; rfl, hbel.trans hb3⟩

end Go.Proofs.Ytgaiknigdgoaeaa
