/-
  TokenSpaced: for every slice of tokens and every slice of bytes the law returns true. No condition.
-/
import Derived.Test.YtgaiknigdgoaeaaLawSpaced0
import Derived.Test.YtgaiknigdgoaeaaRefTokens
namespace Go.Proofs.Ytgaiknigdgoaeaa
open Go.RowKit

theorem own : ownKnob Try.prog.godebug = none := by kernel_rfl

theorem toks_up {w w' : World} {A : Option Addr} {ts : List Tok} (h : Toks w w.heap.size A ts) (hb : Below w.heap.size w w') : Toks w' w'.heap.size A ts := by
  rcases h.below hb with h | ⟨b, off, rfl, hlt, h⟩
  · exact .inl h
  · exact .inr ⟨b, off, rfl, by have := hb.size; omega, h⟩

theorem sum_take (ts : List Tok) (k : Nat) (h : sumText ts ≤ 3000) : ((ts.take k).map fun t => t.text.length).sum ≤ 3000 := by
  have e : sumText ts = sumText (ts.take k) + sumText (ts.drop k) := by
    unfold sumText
    rw [← List.sum_append, ← List.map_append, List.take_append_drop]
  have : sumText (ts.take k) ≤ 3000 := by omega
  exact this

set_option maxRecDepth 100000 in
set_option maxHeartbeats 8000000 in
theorem lawSpaced (ts : List Tok) (zs : List Int) (A A' : Option Addr) (c c' : Nat) (w : World) (hl : ts.length ≤ 4398046511104) (hzl : zs.length ≤ 140737488355328) (tx : ∀ t ∈ ts, t.text.length ≤ reachBytes) (hzb : ∀ z ∈ zs, 0 ≤ z ∧ z ≤ 255)
    (hA : Toks w w.heap.size A ts) (hB : Byts w w.heap.size A' zs) :
    Calls Try.prog 9 #[.slice A ts.length c, .slice A' zs.length c'] w fun e w' => e = .returned (.bool true) ∧ Below w.heap.size w w' := by
  have HA := Lib.hid hA
  have HG := Lib.hid hB
  have HZ := Lib.hid hzb
  have F1 := Lib.hid (fun w h => few_any ts A c w hl tx h)
  clear hA hB tx hzb
  cases hf : fewB ts with
  | false =>
    rw [hf] at F1
    clear hf
    go_enter Try.func9, Try.ntmps9
    go_wp2_with fail
    refine (awake_any _).mono ?_
    rintro e w1 ⟨rfl, hb1⟩
    have HA1 := Lib.hid (toks_up HA.out hb1)
    have HB1 := Lib.hid hb1
    clear hb1
    go_wp2_with fail
    refine (F1.out _ HA1.out).mono ?_
    rintro e w' ⟨rfl, rfl⟩
    go_wp2_with fail
    refine (awake_any _).mono ?_
    rintro e w2 ⟨rfl, hb2⟩
    go_wp2_with fail
    go_ret
    exact ⟨rfl, HB1.out.trans (hb2.mono HB1.out.size)⟩
  | true =>
    rw [hf] at F1
    obtain ⟨l1, l2, l3⟩ := few_text hf
    have HX := Lib.hid l3
    have HSUM := Lib.hid l2
    clear hf l2 l3 hl
    obtain ⟨i0, hi, hz0, hz1', hz2⟩ := info_parts infoTok
    go_enter Try.func9, Try.ntmps9
    go_wp2_with fail
    refine (awake_any _).mono ?_
    rintro e w1 ⟨rfl, hb1⟩
    have HA1 := Lib.hid (toks_up HA.out hb1)
    have HG1 := Lib.hid (HG.out.below hb1)
    have HB1 := Lib.hid hb1
    have hw1 := hb1.size
    clear hb1
    go_wp2_with fail
    refine (F1.out _ HA1.out).mono ?_
    rintro e w' ⟨rfl, rfl⟩
    go_wp2_with fail
    go_loopw [6, 7, 26] (fun ln v i wr => ∃ k : Nat, k ≤ ts.length ∧ ln = .int .i64 (1 + nls (its zs 0 (ts.take k)) : Nat) ∧ i = .int .i64 k ∧
        wr.ownsRow w1.heap.size 29 3 v k (cellsOf (lab 1 (its zs 0 (ts.take k)))) ∧ Lib.IsBuilder 40 5 w1.heap.size w1.heap.size (Lib.byteCells (cat (its zs 0 (ts.take k)))) wr ∧
        Below w1.heap.size w1 wr ∧ allRight (ts.take k) = true ∧ w1.heap.size < wr.heap.size) (fun _ _ i _ => ts.length - (intOf i).toNat)
    case atStart => exact ⟨0, Nat.zero_le _, rfl, rfl, World.ownsRow_nil _ _ _ _, Lib.fresh_isBuilder _ _ _, (Below.refl _ _).alloc (Nat.le_refl _) _, rfl, by simp⟩
    case round =>
      obtain ⟨k, hk, rfl, rfl, hown, hI, hbel, har, hsz⟩ := hrel
      obtain ⟨ao, cap, rfl⟩ := slice_of hown
      have HO := Lib.hid hown
      have HI := Lib.hid hI
      have HAR := Lib.hid har
      have HBEL := Lib.hid hbel
      have hnl : nls (its zs 0 (ts.take k)) ≤ 600 := by
        have h1 := its_nls zs (ts.take k) 0
        have h2 : (ts.take k).length ≤ 300 := by rw [List.length_take]; omega
        omega
      clear hown hI har hbel
      generalize hN : nls (its zs 0 (ts.take k)) = N at hnl ⊢
      have HN := Lib.hid hN
      clear hN
      by_cases hlt : k < ts.length
      · obtain ⟨b, off, rfl, hb, c0, c1, c2⟩ := (HA1.out.below HBEL.out).at_ hlt
        have hxl := HX.out _ (List.getElem_mem hlt)
        have HC := Lib.hid (fun w => refRight_any ts[k].kind ⟨ts[k].text.toArray⟩ ts[k].line (show ts[k].text.length ≤ 900000 by omega) w)
        generalize htt : ts[k] = t at c0 c1 c2 hxl HC
        have HTT := Lib.hid htt
        clear htt
        go_wp2_with fail
        have hbb := (Below.refl wr.heap.size wr).alloc (Nat.le_refl _) (.cells #[.int .i64 t.kind, .string ⟨t.text.toArray⟩, .int .i64 t.line] 29)
        obtain ⟨_, _, _, qb⟩ := box_facts wr t
        have hs1 : (wr.alloc (.cells #[.int .i64 t.kind, .string ⟨t.text.toArray⟩, .int .i64 t.line] 29)).heap.size = wr.heap.size + 1 := by simp
        generalize wr.alloc (.cells #[.int .i64 t.kind, .string ⟨t.text.toArray⟩, .int .i64 t.line] 29) = W0 at hbb qb hs1 ⊢
        have HBB := Lib.hid hbb
        have HQB := Lib.hid qb
        have HS1 := Lib.hid hs1
        clear hbb qb hs1 c0 c1 c2
        refine (HC.out _).mono ?_
        rintro e wA ⟨rfl, hbA⟩
        have HBA := Lib.hid hbA
        have hzA : wr.heap.size < wA.heap.size := by have := hbA.size; have := HS1.out; omega
        have qA : wA.heap[wr.heap.size]? = some (.cells #[.int .i64 t.kind, .string ⟨t.text.toArray⟩, .int .i64 t.line] 29 (0, 0)) := (hbA.block _ (by have := HS1.out; omega)).trans HQB.out
        have HQA := Lib.hid qA
        have HBwA := Lib.hid (show Below wr.heap.size wr wA from HBB.out.trans (hbA.mono (by have := HS1.out; omega)))
        clear hbA
        cases hrt : rightS t.kind t.text with
        | false =>
          go_wp2_with fail
          go_ret
          exact ⟨rfl, HB1.out.trans ((HBEL.out.trans (HBwA.out.mono (by omega))).mono hw1)⟩
        | true =>
          have HRT := Lib.hid hrt
          clear hrt
          have a0 : wA.cell? ⟨wr.heap.size, 0, none⟩ = some (.int .i64 t.kind) := by rw [Lib.cell_of_heap qA]; rfl
          have a1 : wA.cell? ⟨wr.heap.size, 1, none⟩ = some (.string ⟨t.text.toArray⟩) := by rw [Lib.cell_of_heap qA]; rfl
          have a2 : wA.cell? ⟨wr.heap.size, 2, none⟩ = some (.int .i64 t.line) := by rw [Lib.cell_of_heap qA]; rfl
          clear qA
          by_cases hgk : k < zs.length
          · obtain ⟨b2, off2, rfl, hb2, g0⟩ := ((HG1.out.below (HBEL.out.mono hw1)).below (HBwA.out.mono (by omega))).at_ hgk
            have hz := HZ.out _ (List.getElem_mem hgk)
            generalize hzz : zs[k] = z at g0 hz
            have HZZ := Lib.hid hzz
            obtain ⟨hz1, hz2'⟩ := hz
            clear hzz
            have g0o : ∀ o, (wA.alloc o).cell? ⟨b2, off2 + k, none⟩ = some (.int .u8 z) := fun o => (World.cell?_alloc_lt wA o _ (show b2 < wA.heap.size by omega)).trans g0
            have h5 : z % 5 = 0 ∨ z % 5 = 1 ∨ z % 5 = 2 ∨ z % 5 = 3 ∨ z % 5 = 4 := by omega
            clear g0
            rcases h5 with h5 | h5 | h5 | h5 | h5
            · have HZ5 := Lib.hid (show z.toNat % 5 = 0 by omega)
              go_wp2_with fail
              refine (count_from wA ⟨#[32]⟩ _ ((Below.refl _ _).alloc (Nat.le_refl _) _)).mono ?_
              rintro e wX ⟨rfl, hbX⟩
              obtain ⟨g, hg⟩ : ∃ g : ByteArray, g = ⟨#[32]⟩ := ⟨_, rfl⟩
              have HGL := Lib.hid (show gapAt zs k = g.data.toList by rw [hg]; unfold gapAt; rw [List.getElem?_eq_getElem hgk, HZZ.out]; simp only; rw [HZ5.out]; rfl)
              have hgz : g.size ≤ 10 := by rw [hg]; decide
              have hgn : nl g.data.toList ≤ 2 := by rw [hg]; decide
              rw [← hg]
              clear hg
              generalize hM : nl g.data.toList = M at hgn ⊢
              have HM := Lib.hid hM
              clear hM
              have qX : wX.heap[wr.heap.size]? = some (.cells #[.int .i64 t.kind, .string ⟨t.text.toArray⟩, .int .i64 t.line] 29 (0, 0)) := (hbX.block _ hzA).trans HQA.out
              have x0 : wX.cell? ⟨wr.heap.size, 0, none⟩ = some (.int .i64 t.kind) := by rw [Lib.cell_of_heap qX]; rfl
              have x1 : wX.cell? ⟨wr.heap.size, 1, none⟩ = some (.string ⟨t.text.toArray⟩) := by rw [Lib.cell_of_heap qX]; rfl
              have x2 : wX.cell? ⟨wr.heap.size, 2, none⟩ = some (.int .i64 t.line) := by rw [Lib.cell_of_heap qX]; rfl
              have HQX := Lib.hid qX
              have HBX := Lib.hid (show Below wr.heap.size wr wX from HBwA.out.trans (hbX.mono (by omega)))
              have hzX : wr.heap.size < wX.heap.size := by have := hbX.size; omega
              clear hbX qX a0 a1 a2 g0o h5
              go_wp2_with fail
              obtain ⟨q, hq, hqz⟩ : ∃ q : ByteArray, q.data.toList = quoteS t.kind t.text ∧ q.size ≤ 62 := ⟨⟨(quoteS t.kind t.text).toArray⟩, rfl, quote_len HRT.out⟩
              have HQ := Lib.hid hq
              clear hq
              refine (refWrite_one t HRT.out q HQ.out wX).mono ?_
              rintro e wB ⟨rfl, hbB⟩
              have hbB2 : Below wX.heap.size wX wB := ((Below.refl _ _).alloc (Nat.le_refl _) _).trans (hbB.mono (by omega))
              have qB : wB.heap[wr.heap.size]? = some (.cells #[.int .i64 t.kind, .string ⟨t.text.toArray⟩, .int .i64 t.line] 29 (0, 0)) := (hbB2.block _ hzX).trans HQX.out
              have HQB2 := Lib.hid qB
              have HBB2 := Lib.hid (show Below wr.heap.size wr wB from HBX.out.trans (hbB2.mono (by omega)))
              have hzB : wr.heap.size < wB.heap.size := by have := hbB2.size; omega
              clear hbB hbB2 qB x0 x1 x2
              have HIB := Lib.hid (isBuilder_kept HI.out HBB2.out)
              have HOB := Lib.hid (own_below HO.out HBB2.out)
              have hcl : (cat (its zs 0 (ts.take k))).length ≤ 100000 := by
                have h1 := its_cat_len zs (ts.take k) 0
                have h2 := sumText_le (ts.take k) (fun t ht => by have := HX.out t (List.mem_of_mem_take ht); unfold reachBytes; omega)
                have h3 : (ts.take k).length ≤ 300 := by rw [List.length_take]; omega
                have h4 : ((ts.take k).map fun t => t.text.length).sum ≤ 3000 := sum_take ts k HSUM.out
                omega
              go_wp2_with fail
              refine (writeString_any _ _ _ _ _ HIB.out ?b1 ?b2).mono ?_
              case b1 => rw [Lib.byteCells_length, ByteArray.size_append]; omega
              case b2 => omega
              rintro e wC ⟨rfl, hIC, hbC, hstC⟩
              have HIC := Lib.hid (show Lib.IsBuilder 40 5 w1.heap.size w1.heap.size _ wC from .inr hIC)
              have qC : wC.heap[wr.heap.size]? = some (.cells #[.int .i64 t.kind, .string ⟨t.text.toArray⟩, .int .i64 t.line] 29 (0, 0)) := by
                rw [hstC wr.heap.size hzB (by omega) (by intro cs fr; rw [HQB2.out]; simp), HQB2.out]
              have HOC := Lib.hid (own_keep HOB.out (fun gg hgg => by
                obtain ⟨cur, hcur⟩ := own_block HOB.out hgg
                obtain ⟨cs, hcs⟩ := bld_block HIB.out
                refine hstC gg ((HOB.out.lt gg hgg).2) ?_ (by intro cs' fr; rw [hcur]; simp)
                rintro rfl
                rw [hcur] at hcs
                simp at hcs))
              have hbnd : ∀ gg, (Value.slice ao k cap).ownBlock = some gg → gg < wr.heap.size := fun gg hgg => (HO.out.lt gg hgg).2
              have HBND := Lib.hid hbnd
              have HBC := Lib.hid (show Below w1.heap.size w1 wC from (HBEL.out.trans (HBB2.out.mono (by omega))).trans hbC)
              have hzC : wr.heap.size < wC.heap.size := by have := hbC.size; omega
              have y0 : wC.cell? ⟨wr.heap.size, 0, none⟩ = some (.int .i64 t.kind) := by rw [Lib.cell_of_heap qC]; rfl
              have y1 : wC.cell? ⟨wr.heap.size, 1, none⟩ = some (.string ⟨t.text.toArray⟩) := by rw [Lib.cell_of_heap qC]; rfl
              have y2 : wC.cell? ⟨wr.heap.size, 2, none⟩ = some (.int .i64 t.line) := by rw [Lib.cell_of_heap qC]; rfl
              have y3 : wC.frozen? ⟨wr.heap.size, 2, none⟩ = false := Lib.frozen_of_heap qC 2
              have HQC := Lib.hid qC
              have HOD := Lib.hid (own_keep (w' := wC.setCell ⟨wr.heap.size, 2, none⟩ (.int .i64 (1 + N + M))) HOC.out (fun gg hgg => Below.heap_setCell wC _ _ gg (by have := HBND.out gg hgg; simp; omega)))
              clear hIC hbC hstC qC hbnd
              go_wp2_with (at_builtin; refine wpList_append_own _ rfl _ _ 23 rfl w1.heap.size 29 i0 (.agg #[.int .i64 0, .string ⟨#[]⟩, .int .i64 0]) 3 32 Try.underlying23 hi hz0 hz1' hz2 rfl (by decide) _ _ _ rfl (HOD.out.alloc _) ⟨wC.heap.size, 0, none⟩ 1 1 (tcells ⟨t.kind, t.text, 1 + N + M⟩) rfl rfl ?e1 ?e2 ?e3 ?e4 ?e5 ?_)
              case e1 =>
                intro j u hj
                rw [addr_plain, Nat.zero_add, set_alloc_cell]
                simpa [tcells] using hj
              case e2 => intro u hu; simp [tcells] at hu; rcases hu with rfl | rfl | rfl <;> rfl
              case e3 => unfold maxLen; omega
              case e4 => omega
              case e5 => simp; omega
              intro v' wD hown' hgrow _
              have HO2 := Lib.hid hown'
              have HID := Lib.hid (bld_append HIC.out ⟨_, HQC.out⟩ HOC.out hgrow)
              have HBD := Lib.hid (show Below w1.heap.size w1 wD from ((HBC.out.setCell (p := ⟨wr.heap.size, 2, none⟩) (show w1.heap.size ≤ wr.heap.size by omega) _).alloc (by simp; omega) _).grown hgrow (by simp; omega) (fun gg hgg => (HOD.out.lt gg hgg).1))
              have hzD : w1.heap.size < wD.heap.size := by have := hgrow.size; simp [World.setCell] at this; omega
              clear hown' hgrow
              go_wp2_with fail
              go_roundw
              case rel =>
                have hsn : its zs 0 (ts.take (k + 1)) = its zs 0 (ts.take k) ++ [⟨g.data.toList, t.kind, t.text⟩] := by
                  rw [List.take_succ_eq_append_getElem hlt, HTT.out, its_snoc, List.length_take, Nat.min_eq_left (by omega), Nat.zero_add, HGL.out]
                have hnn : nls (its zs 0 (ts.take (k + 1))) = N + M := by rw [hsn, nls_snoc, HN.out, HM.out]
                refine ⟨k + 1, by omega, ?_, by go_num, ?_, ?_, HBD.out, ?_, hzD⟩
                · rw [hnn]; congr 1; omega
                · rw [hsn, lab_snoc, cellsOf_snoc, HN.out, HM.out]
                  have := HO2.out
                  rw [show ((1 + N + M : Nat) : Int) = 1 + (N : Int) + (M : Int) by omega]
                  exact this
                · have := HID.out
                  rw [Lib.strCells_eq, ByteArray.data_append, Array.toList_append, HQ.out, ← Lib.byteCells_append] at this
                  rw [hsn, cat_append]
                  simpa [cat] using this
                · rw [allRight_snoc ts k hlt, HAR.out, HTT.out, HRT.out]; rfl
              case measure => simp [intOf]; omega
            · have HZ5 := Lib.hid (show z.toNat % 5 = 1 by omega)
              go_wp2_with fail
              refine (count_from wA ⟨#[10]⟩ _ ((Below.refl _ _).alloc (Nat.le_refl _) _)).mono ?_
              rintro e wX ⟨rfl, hbX⟩
              obtain ⟨g, hg⟩ : ∃ g : ByteArray, g = ⟨#[10]⟩ := ⟨_, rfl⟩
              have HGL := Lib.hid (show gapAt zs k = g.data.toList by rw [hg]; unfold gapAt; rw [List.getElem?_eq_getElem hgk, HZZ.out]; simp only; rw [HZ5.out]; rfl)
              have hgz : g.size ≤ 10 := by rw [hg]; decide
              have hgn : nl g.data.toList ≤ 2 := by rw [hg]; decide
              rw [← hg]
              clear hg
              generalize hM : nl g.data.toList = M at hgn ⊢
              have HM := Lib.hid hM
              clear hM
              have qX : wX.heap[wr.heap.size]? = some (.cells #[.int .i64 t.kind, .string ⟨t.text.toArray⟩, .int .i64 t.line] 29 (0, 0)) := (hbX.block _ hzA).trans HQA.out
              have x0 : wX.cell? ⟨wr.heap.size, 0, none⟩ = some (.int .i64 t.kind) := by rw [Lib.cell_of_heap qX]; rfl
              have x1 : wX.cell? ⟨wr.heap.size, 1, none⟩ = some (.string ⟨t.text.toArray⟩) := by rw [Lib.cell_of_heap qX]; rfl
              have x2 : wX.cell? ⟨wr.heap.size, 2, none⟩ = some (.int .i64 t.line) := by rw [Lib.cell_of_heap qX]; rfl
              have HQX := Lib.hid qX
              have HBX := Lib.hid (show Below wr.heap.size wr wX from HBwA.out.trans (hbX.mono (by omega)))
              have hzX : wr.heap.size < wX.heap.size := by have := hbX.size; omega
              clear hbX qX a0 a1 a2 g0o h5
              go_wp2_with fail
              obtain ⟨q, hq, hqz⟩ : ∃ q : ByteArray, q.data.toList = quoteS t.kind t.text ∧ q.size ≤ 62 := ⟨⟨(quoteS t.kind t.text).toArray⟩, rfl, quote_len HRT.out⟩
              have HQ := Lib.hid hq
              clear hq
              refine (refWrite_one t HRT.out q HQ.out wX).mono ?_
              rintro e wB ⟨rfl, hbB⟩
              have hbB2 : Below wX.heap.size wX wB := ((Below.refl _ _).alloc (Nat.le_refl _) _).trans (hbB.mono (by omega))
              have qB : wB.heap[wr.heap.size]? = some (.cells #[.int .i64 t.kind, .string ⟨t.text.toArray⟩, .int .i64 t.line] 29 (0, 0)) := (hbB2.block _ hzX).trans HQX.out
              have HQB2 := Lib.hid qB
              have HBB2 := Lib.hid (show Below wr.heap.size wr wB from HBX.out.trans (hbB2.mono (by omega)))
              have hzB : wr.heap.size < wB.heap.size := by have := hbB2.size; omega
              clear hbB hbB2 qB x0 x1 x2
              have HIB := Lib.hid (isBuilder_kept HI.out HBB2.out)
              have HOB := Lib.hid (own_below HO.out HBB2.out)
              have hcl : (cat (its zs 0 (ts.take k))).length ≤ 100000 := by
                have h1 := its_cat_len zs (ts.take k) 0
                have h2 := sumText_le (ts.take k) (fun t ht => by have := HX.out t (List.mem_of_mem_take ht); unfold reachBytes; omega)
                have h3 : (ts.take k).length ≤ 300 := by rw [List.length_take]; omega
                have h4 : ((ts.take k).map fun t => t.text.length).sum ≤ 3000 := sum_take ts k HSUM.out
                omega
              go_wp2_with fail
              refine (writeString_any _ _ _ _ _ HIB.out ?b1 ?b2).mono ?_
              case b1 => rw [Lib.byteCells_length, ByteArray.size_append]; omega
              case b2 => omega
              rintro e wC ⟨rfl, hIC, hbC, hstC⟩
              have HIC := Lib.hid (show Lib.IsBuilder 40 5 w1.heap.size w1.heap.size _ wC from .inr hIC)
              have qC : wC.heap[wr.heap.size]? = some (.cells #[.int .i64 t.kind, .string ⟨t.text.toArray⟩, .int .i64 t.line] 29 (0, 0)) := by
                rw [hstC wr.heap.size hzB (by omega) (by intro cs fr; rw [HQB2.out]; simp), HQB2.out]
              have HOC := Lib.hid (own_keep HOB.out (fun gg hgg => by
                obtain ⟨cur, hcur⟩ := own_block HOB.out hgg
                obtain ⟨cs, hcs⟩ := bld_block HIB.out
                refine hstC gg ((HOB.out.lt gg hgg).2) ?_ (by intro cs' fr; rw [hcur]; simp)
                rintro rfl
                rw [hcur] at hcs
                simp at hcs))
              have hbnd : ∀ gg, (Value.slice ao k cap).ownBlock = some gg → gg < wr.heap.size := fun gg hgg => (HO.out.lt gg hgg).2
              have HBND := Lib.hid hbnd
              have HBC := Lib.hid (show Below w1.heap.size w1 wC from (HBEL.out.trans (HBB2.out.mono (by omega))).trans hbC)
              have hzC : wr.heap.size < wC.heap.size := by have := hbC.size; omega
              have y0 : wC.cell? ⟨wr.heap.size, 0, none⟩ = some (.int .i64 t.kind) := by rw [Lib.cell_of_heap qC]; rfl
              have y1 : wC.cell? ⟨wr.heap.size, 1, none⟩ = some (.string ⟨t.text.toArray⟩) := by rw [Lib.cell_of_heap qC]; rfl
              have y2 : wC.cell? ⟨wr.heap.size, 2, none⟩ = some (.int .i64 t.line) := by rw [Lib.cell_of_heap qC]; rfl
              have y3 : wC.frozen? ⟨wr.heap.size, 2, none⟩ = false := Lib.frozen_of_heap qC 2
              have HQC := Lib.hid qC
              have HOD := Lib.hid (own_keep (w' := wC.setCell ⟨wr.heap.size, 2, none⟩ (.int .i64 (1 + N + M))) HOC.out (fun gg hgg => Below.heap_setCell wC _ _ gg (by have := HBND.out gg hgg; simp; omega)))
              clear hIC hbC hstC qC hbnd
              go_wp2_with (at_builtin; refine wpList_append_own _ rfl _ _ 23 rfl w1.heap.size 29 i0 (.agg #[.int .i64 0, .string ⟨#[]⟩, .int .i64 0]) 3 32 Try.underlying23 hi hz0 hz1' hz2 rfl (by decide) _ _ _ rfl (HOD.out.alloc _) ⟨wC.heap.size, 0, none⟩ 1 1 (tcells ⟨t.kind, t.text, 1 + N + M⟩) rfl rfl ?e1 ?e2 ?e3 ?e4 ?e5 ?_)
              case e1 =>
                intro j u hj
                rw [addr_plain, Nat.zero_add, set_alloc_cell]
                simpa [tcells] using hj
              case e2 => intro u hu; simp [tcells] at hu; rcases hu with rfl | rfl | rfl <;> rfl
              case e3 => unfold maxLen; omega
              case e4 => omega
              case e5 => simp; omega
              intro v' wD hown' hgrow _
              have HO2 := Lib.hid hown'
              have HID := Lib.hid (bld_append HIC.out ⟨_, HQC.out⟩ HOC.out hgrow)
              have HBD := Lib.hid (show Below w1.heap.size w1 wD from ((HBC.out.setCell (p := ⟨wr.heap.size, 2, none⟩) (show w1.heap.size ≤ wr.heap.size by omega) _).alloc (by simp; omega) _).grown hgrow (by simp; omega) (fun gg hgg => (HOD.out.lt gg hgg).1))
              have hzD : w1.heap.size < wD.heap.size := by have := hgrow.size; simp [World.setCell] at this; omega
              clear hown' hgrow
              go_wp2_with fail
              go_roundw
              case rel =>
                have hsn : its zs 0 (ts.take (k + 1)) = its zs 0 (ts.take k) ++ [⟨g.data.toList, t.kind, t.text⟩] := by
                  rw [List.take_succ_eq_append_getElem hlt, HTT.out, its_snoc, List.length_take, Nat.min_eq_left (by omega), Nat.zero_add, HGL.out]
                have hnn : nls (its zs 0 (ts.take (k + 1))) = N + M := by rw [hsn, nls_snoc, HN.out, HM.out]
                refine ⟨k + 1, by omega, ?_, by go_num, ?_, ?_, HBD.out, ?_, hzD⟩
                · rw [hnn]; congr 1; omega
                · rw [hsn, lab_snoc, cellsOf_snoc, HN.out, HM.out]
                  have := HO2.out
                  rw [show ((1 + N + M : Nat) : Int) = 1 + (N : Int) + (M : Int) by omega]
                  exact this
                · have := HID.out
                  rw [Lib.strCells_eq, ByteArray.data_append, Array.toList_append, HQ.out, ← Lib.byteCells_append] at this
                  rw [hsn, cat_append]
                  simpa [cat] using this
                · rw [allRight_snoc ts k hlt, HAR.out, HTT.out, HRT.out]; rfl
              case measure => simp [intOf]; omega
            · have HZ5 := Lib.hid (show z.toNat % 5 = 2 by omega)
              go_wp2_with fail
              refine (count_from wA ⟨#[9, 32, 13, 10]⟩ _ ((Below.refl _ _).alloc (Nat.le_refl _) _)).mono ?_
              rintro e wX ⟨rfl, hbX⟩
              obtain ⟨g, hg⟩ : ∃ g : ByteArray, g = ⟨#[9, 32, 13, 10]⟩ := ⟨_, rfl⟩
              have HGL := Lib.hid (show gapAt zs k = g.data.toList by rw [hg]; unfold gapAt; rw [List.getElem?_eq_getElem hgk, HZZ.out]; simp only; rw [HZ5.out]; rfl)
              have hgz : g.size ≤ 10 := by rw [hg]; decide
              have hgn : nl g.data.toList ≤ 2 := by rw [hg]; decide
              rw [← hg]
              clear hg
              generalize hM : nl g.data.toList = M at hgn ⊢
              have HM := Lib.hid hM
              clear hM
              have qX : wX.heap[wr.heap.size]? = some (.cells #[.int .i64 t.kind, .string ⟨t.text.toArray⟩, .int .i64 t.line] 29 (0, 0)) := (hbX.block _ hzA).trans HQA.out
              have x0 : wX.cell? ⟨wr.heap.size, 0, none⟩ = some (.int .i64 t.kind) := by rw [Lib.cell_of_heap qX]; rfl
              have x1 : wX.cell? ⟨wr.heap.size, 1, none⟩ = some (.string ⟨t.text.toArray⟩) := by rw [Lib.cell_of_heap qX]; rfl
              have x2 : wX.cell? ⟨wr.heap.size, 2, none⟩ = some (.int .i64 t.line) := by rw [Lib.cell_of_heap qX]; rfl
              have HQX := Lib.hid qX
              have HBX := Lib.hid (show Below wr.heap.size wr wX from HBwA.out.trans (hbX.mono (by omega)))
              have hzX : wr.heap.size < wX.heap.size := by have := hbX.size; omega
              clear hbX qX a0 a1 a2 g0o h5
              go_wp2_with fail
              obtain ⟨q, hq, hqz⟩ : ∃ q : ByteArray, q.data.toList = quoteS t.kind t.text ∧ q.size ≤ 62 := ⟨⟨(quoteS t.kind t.text).toArray⟩, rfl, quote_len HRT.out⟩
              have HQ := Lib.hid hq
              clear hq
              refine (refWrite_one t HRT.out q HQ.out wX).mono ?_
              rintro e wB ⟨rfl, hbB⟩
              have hbB2 : Below wX.heap.size wX wB := ((Below.refl _ _).alloc (Nat.le_refl _) _).trans (hbB.mono (by omega))
              have qB : wB.heap[wr.heap.size]? = some (.cells #[.int .i64 t.kind, .string ⟨t.text.toArray⟩, .int .i64 t.line] 29 (0, 0)) := (hbB2.block _ hzX).trans HQX.out
              have HQB2 := Lib.hid qB
              have HBB2 := Lib.hid (show Below wr.heap.size wr wB from HBX.out.trans (hbB2.mono (by omega)))
              have hzB : wr.heap.size < wB.heap.size := by have := hbB2.size; omega
              clear hbB hbB2 qB x0 x1 x2
              have HIB := Lib.hid (isBuilder_kept HI.out HBB2.out)
              have HOB := Lib.hid (own_below HO.out HBB2.out)
              have hcl : (cat (its zs 0 (ts.take k))).length ≤ 100000 := by
                have h1 := its_cat_len zs (ts.take k) 0
                have h2 := sumText_le (ts.take k) (fun t ht => by have := HX.out t (List.mem_of_mem_take ht); unfold reachBytes; omega)
                have h3 : (ts.take k).length ≤ 300 := by rw [List.length_take]; omega
                have h4 : ((ts.take k).map fun t => t.text.length).sum ≤ 3000 := sum_take ts k HSUM.out
                omega
              go_wp2_with fail
              refine (writeString_any _ _ _ _ _ HIB.out ?b1 ?b2).mono ?_
              case b1 => rw [Lib.byteCells_length, ByteArray.size_append]; omega
              case b2 => omega
              rintro e wC ⟨rfl, hIC, hbC, hstC⟩
              have HIC := Lib.hid (show Lib.IsBuilder 40 5 w1.heap.size w1.heap.size _ wC from .inr hIC)
              have qC : wC.heap[wr.heap.size]? = some (.cells #[.int .i64 t.kind, .string ⟨t.text.toArray⟩, .int .i64 t.line] 29 (0, 0)) := by
                rw [hstC wr.heap.size hzB (by omega) (by intro cs fr; rw [HQB2.out]; simp), HQB2.out]
              have HOC := Lib.hid (own_keep HOB.out (fun gg hgg => by
                obtain ⟨cur, hcur⟩ := own_block HOB.out hgg
                obtain ⟨cs, hcs⟩ := bld_block HIB.out
                refine hstC gg ((HOB.out.lt gg hgg).2) ?_ (by intro cs' fr; rw [hcur]; simp)
                rintro rfl
                rw [hcur] at hcs
                simp at hcs))
              have hbnd : ∀ gg, (Value.slice ao k cap).ownBlock = some gg → gg < wr.heap.size := fun gg hgg => (HO.out.lt gg hgg).2
              have HBND := Lib.hid hbnd
              have HBC := Lib.hid (show Below w1.heap.size w1 wC from (HBEL.out.trans (HBB2.out.mono (by omega))).trans hbC)
              have hzC : wr.heap.size < wC.heap.size := by have := hbC.size; omega
              have y0 : wC.cell? ⟨wr.heap.size, 0, none⟩ = some (.int .i64 t.kind) := by rw [Lib.cell_of_heap qC]; rfl
              have y1 : wC.cell? ⟨wr.heap.size, 1, none⟩ = some (.string ⟨t.text.toArray⟩) := by rw [Lib.cell_of_heap qC]; rfl
              have y2 : wC.cell? ⟨wr.heap.size, 2, none⟩ = some (.int .i64 t.line) := by rw [Lib.cell_of_heap qC]; rfl
              have y3 : wC.frozen? ⟨wr.heap.size, 2, none⟩ = false := Lib.frozen_of_heap qC 2
              have HQC := Lib.hid qC
              have HOD := Lib.hid (own_keep (w' := wC.setCell ⟨wr.heap.size, 2, none⟩ (.int .i64 (1 + N + M))) HOC.out (fun gg hgg => Below.heap_setCell wC _ _ gg (by have := HBND.out gg hgg; simp; omega)))
              clear hIC hbC hstC qC hbnd
              go_wp2_with (at_builtin; refine wpList_append_own _ rfl _ _ 23 rfl w1.heap.size 29 i0 (.agg #[.int .i64 0, .string ⟨#[]⟩, .int .i64 0]) 3 32 Try.underlying23 hi hz0 hz1' hz2 rfl (by decide) _ _ _ rfl (HOD.out.alloc _) ⟨wC.heap.size, 0, none⟩ 1 1 (tcells ⟨t.kind, t.text, 1 + N + M⟩) rfl rfl ?e1 ?e2 ?e3 ?e4 ?e5 ?_)
              case e1 =>
                intro j u hj
                rw [addr_plain, Nat.zero_add, set_alloc_cell]
                simpa [tcells] using hj
              case e2 => intro u hu; simp [tcells] at hu; rcases hu with rfl | rfl | rfl <;> rfl
              case e3 => unfold maxLen; omega
              case e4 => omega
              case e5 => simp; omega
              intro v' wD hown' hgrow _
              have HO2 := Lib.hid hown'
              have HID := Lib.hid (bld_append HIC.out ⟨_, HQC.out⟩ HOC.out hgrow)
              have HBD := Lib.hid (show Below w1.heap.size w1 wD from ((HBC.out.setCell (p := ⟨wr.heap.size, 2, none⟩) (show w1.heap.size ≤ wr.heap.size by omega) _).alloc (by simp; omega) _).grown hgrow (by simp; omega) (fun gg hgg => (HOD.out.lt gg hgg).1))
              have hzD : w1.heap.size < wD.heap.size := by have := hgrow.size; simp [World.setCell] at this; omega
              clear hown' hgrow
              go_wp2_with fail
              go_roundw
              case rel =>
                have hsn : its zs 0 (ts.take (k + 1)) = its zs 0 (ts.take k) ++ [⟨g.data.toList, t.kind, t.text⟩] := by
                  rw [List.take_succ_eq_append_getElem hlt, HTT.out, its_snoc, List.length_take, Nat.min_eq_left (by omega), Nat.zero_add, HGL.out]
                have hnn : nls (its zs 0 (ts.take (k + 1))) = N + M := by rw [hsn, nls_snoc, HN.out, HM.out]
                refine ⟨k + 1, by omega, ?_, by go_num, ?_, ?_, HBD.out, ?_, hzD⟩
                · rw [hnn]; congr 1; omega
                · rw [hsn, lab_snoc, cellsOf_snoc, HN.out, HM.out]
                  have := HO2.out
                  rw [show ((1 + N + M : Nat) : Int) = 1 + (N : Int) + (M : Int) by omega]
                  exact this
                · have := HID.out
                  rw [Lib.strCells_eq, ByteArray.data_append, Array.toList_append, HQ.out, ← Lib.byteCells_append] at this
                  rw [hsn, cat_append]
                  simpa [cat] using this
                · rw [allRight_snoc ts k hlt, HAR.out, HTT.out, HRT.out]; rfl
              case measure => simp [intOf]; omega
            · have HZ5 := Lib.hid (show z.toNat % 5 = 3 by omega)
              go_wp2_with fail
              refine (count_from wA ⟨#[32, 35, 32, 45, 62, 32, 34, 32, 123, 10]⟩ _ ((Below.refl _ _).alloc (Nat.le_refl _) _)).mono ?_
              rintro e wX ⟨rfl, hbX⟩
              obtain ⟨g, hg⟩ : ∃ g : ByteArray, g = ⟨#[32, 35, 32, 45, 62, 32, 34, 32, 123, 10]⟩ := ⟨_, rfl⟩
              have HGL := Lib.hid (show gapAt zs k = g.data.toList by rw [hg]; unfold gapAt; rw [List.getElem?_eq_getElem hgk, HZZ.out]; simp only; rw [HZ5.out]; rfl)
              have hgz : g.size ≤ 10 := by rw [hg]; decide
              have hgn : nl g.data.toList ≤ 2 := by rw [hg]; decide
              rw [← hg]
              clear hg
              generalize hM : nl g.data.toList = M at hgn ⊢
              have HM := Lib.hid hM
              clear hM
              have qX : wX.heap[wr.heap.size]? = some (.cells #[.int .i64 t.kind, .string ⟨t.text.toArray⟩, .int .i64 t.line] 29 (0, 0)) := (hbX.block _ hzA).trans HQA.out
              have x0 : wX.cell? ⟨wr.heap.size, 0, none⟩ = some (.int .i64 t.kind) := by rw [Lib.cell_of_heap qX]; rfl
              have x1 : wX.cell? ⟨wr.heap.size, 1, none⟩ = some (.string ⟨t.text.toArray⟩) := by rw [Lib.cell_of_heap qX]; rfl
              have x2 : wX.cell? ⟨wr.heap.size, 2, none⟩ = some (.int .i64 t.line) := by rw [Lib.cell_of_heap qX]; rfl
              have HQX := Lib.hid qX
              have HBX := Lib.hid (show Below wr.heap.size wr wX from HBwA.out.trans (hbX.mono (by omega)))
              have hzX : wr.heap.size < wX.heap.size := by have := hbX.size; omega
              clear hbX qX a0 a1 a2 g0o h5
              go_wp2_with fail
              obtain ⟨q, hq, hqz⟩ : ∃ q : ByteArray, q.data.toList = quoteS t.kind t.text ∧ q.size ≤ 62 := ⟨⟨(quoteS t.kind t.text).toArray⟩, rfl, quote_len HRT.out⟩
              have HQ := Lib.hid hq
              clear hq
              refine (refWrite_one t HRT.out q HQ.out wX).mono ?_
              rintro e wB ⟨rfl, hbB⟩
              have hbB2 : Below wX.heap.size wX wB := ((Below.refl _ _).alloc (Nat.le_refl _) _).trans (hbB.mono (by omega))
              have qB : wB.heap[wr.heap.size]? = some (.cells #[.int .i64 t.kind, .string ⟨t.text.toArray⟩, .int .i64 t.line] 29 (0, 0)) := (hbB2.block _ hzX).trans HQX.out
              have HQB2 := Lib.hid qB
              have HBB2 := Lib.hid (show Below wr.heap.size wr wB from HBX.out.trans (hbB2.mono (by omega)))
              have hzB : wr.heap.size < wB.heap.size := by have := hbB2.size; omega
              clear hbB hbB2 qB x0 x1 x2
              have HIB := Lib.hid (isBuilder_kept HI.out HBB2.out)
              have HOB := Lib.hid (own_below HO.out HBB2.out)
              have hcl : (cat (its zs 0 (ts.take k))).length ≤ 100000 := by
                have h1 := its_cat_len zs (ts.take k) 0
                have h2 := sumText_le (ts.take k) (fun t ht => by have := HX.out t (List.mem_of_mem_take ht); unfold reachBytes; omega)
                have h3 : (ts.take k).length ≤ 300 := by rw [List.length_take]; omega
                have h4 : ((ts.take k).map fun t => t.text.length).sum ≤ 3000 := sum_take ts k HSUM.out
                omega
              go_wp2_with fail
              refine (writeString_any _ _ _ _ _ HIB.out ?b1 ?b2).mono ?_
              case b1 => rw [Lib.byteCells_length, ByteArray.size_append]; omega
              case b2 => omega
              rintro e wC ⟨rfl, hIC, hbC, hstC⟩
              have HIC := Lib.hid (show Lib.IsBuilder 40 5 w1.heap.size w1.heap.size _ wC from .inr hIC)
              have qC : wC.heap[wr.heap.size]? = some (.cells #[.int .i64 t.kind, .string ⟨t.text.toArray⟩, .int .i64 t.line] 29 (0, 0)) := by
                rw [hstC wr.heap.size hzB (by omega) (by intro cs fr; rw [HQB2.out]; simp), HQB2.out]
              have HOC := Lib.hid (own_keep HOB.out (fun gg hgg => by
                obtain ⟨cur, hcur⟩ := own_block HOB.out hgg
                obtain ⟨cs, hcs⟩ := bld_block HIB.out
                refine hstC gg ((HOB.out.lt gg hgg).2) ?_ (by intro cs' fr; rw [hcur]; simp)
                rintro rfl
                rw [hcur] at hcs
                simp at hcs))
              have hbnd : ∀ gg, (Value.slice ao k cap).ownBlock = some gg → gg < wr.heap.size := fun gg hgg => (HO.out.lt gg hgg).2
              have HBND := Lib.hid hbnd
              have HBC := Lib.hid (show Below w1.heap.size w1 wC from (HBEL.out.trans (HBB2.out.mono (by omega))).trans hbC)
              have hzC : wr.heap.size < wC.heap.size := by have := hbC.size; omega
              have y0 : wC.cell? ⟨wr.heap.size, 0, none⟩ = some (.int .i64 t.kind) := by rw [Lib.cell_of_heap qC]; rfl
              have y1 : wC.cell? ⟨wr.heap.size, 1, none⟩ = some (.string ⟨t.text.toArray⟩) := by rw [Lib.cell_of_heap qC]; rfl
              have y2 : wC.cell? ⟨wr.heap.size, 2, none⟩ = some (.int .i64 t.line) := by rw [Lib.cell_of_heap qC]; rfl
              have y3 : wC.frozen? ⟨wr.heap.size, 2, none⟩ = false := Lib.frozen_of_heap qC 2
              have HQC := Lib.hid qC
              have HOD := Lib.hid (own_keep (w' := wC.setCell ⟨wr.heap.size, 2, none⟩ (.int .i64 (1 + N + M))) HOC.out (fun gg hgg => Below.heap_setCell wC _ _ gg (by have := HBND.out gg hgg; simp; omega)))
              clear hIC hbC hstC qC hbnd
              go_wp2_with (at_builtin; refine wpList_append_own _ rfl _ _ 23 rfl w1.heap.size 29 i0 (.agg #[.int .i64 0, .string ⟨#[]⟩, .int .i64 0]) 3 32 Try.underlying23 hi hz0 hz1' hz2 rfl (by decide) _ _ _ rfl (HOD.out.alloc _) ⟨wC.heap.size, 0, none⟩ 1 1 (tcells ⟨t.kind, t.text, 1 + N + M⟩) rfl rfl ?e1 ?e2 ?e3 ?e4 ?e5 ?_)
              case e1 =>
                intro j u hj
                rw [addr_plain, Nat.zero_add, set_alloc_cell]
                simpa [tcells] using hj
              case e2 => intro u hu; simp [tcells] at hu; rcases hu with rfl | rfl | rfl <;> rfl
              case e3 => unfold maxLen; omega
              case e4 => omega
              case e5 => simp; omega
              intro v' wD hown' hgrow _
              have HO2 := Lib.hid hown'
              have HID := Lib.hid (bld_append HIC.out ⟨_, HQC.out⟩ HOC.out hgrow)
              have HBD := Lib.hid (show Below w1.heap.size w1 wD from ((HBC.out.setCell (p := ⟨wr.heap.size, 2, none⟩) (show w1.heap.size ≤ wr.heap.size by omega) _).alloc (by simp; omega) _).grown hgrow (by simp; omega) (fun gg hgg => (HOD.out.lt gg hgg).1))
              have hzD : w1.heap.size < wD.heap.size := by have := hgrow.size; simp [World.setCell] at this; omega
              clear hown' hgrow
              go_wp2_with fail
              go_roundw
              case rel =>
                have hsn : its zs 0 (ts.take (k + 1)) = its zs 0 (ts.take k) ++ [⟨g.data.toList, t.kind, t.text⟩] := by
                  rw [List.take_succ_eq_append_getElem hlt, HTT.out, its_snoc, List.length_take, Nat.min_eq_left (by omega), Nat.zero_add, HGL.out]
                have hnn : nls (its zs 0 (ts.take (k + 1))) = N + M := by rw [hsn, nls_snoc, HN.out, HM.out]
                refine ⟨k + 1, by omega, ?_, by go_num, ?_, ?_, HBD.out, ?_, hzD⟩
                · rw [hnn]; congr 1; omega
                · rw [hsn, lab_snoc, cellsOf_snoc, HN.out, HM.out]
                  have := HO2.out
                  rw [show ((1 + N + M : Nat) : Int) = 1 + (N : Int) + (M : Int) by omega]
                  exact this
                · have := HID.out
                  rw [Lib.strCells_eq, ByteArray.data_append, Array.toList_append, HQ.out, ← Lib.byteCells_append] at this
                  rw [hsn, cat_append]
                  simpa [cat] using this
                · rw [allRight_snoc ts k hlt, HAR.out, HTT.out, HRT.out]; rfl
              case measure => simp [intOf]; omega
            · have HZ5 := Lib.hid (show z.toNat % 5 = 4 by omega)
              go_wp2_with fail
              refine (count_from wA ⟨#[35, 10, 10]⟩ _ ((Below.refl _ _).alloc (Nat.le_refl _) _)).mono ?_
              rintro e wX ⟨rfl, hbX⟩
              obtain ⟨g, hg⟩ : ∃ g : ByteArray, g = ⟨#[35, 10, 10]⟩ := ⟨_, rfl⟩
              have HGL := Lib.hid (show gapAt zs k = g.data.toList by rw [hg]; unfold gapAt; rw [List.getElem?_eq_getElem hgk, HZZ.out]; simp only; rw [HZ5.out]; rfl)
              have hgz : g.size ≤ 10 := by rw [hg]; decide
              have hgn : nl g.data.toList ≤ 2 := by rw [hg]; decide
              rw [← hg]
              clear hg
              generalize hM : nl g.data.toList = M at hgn ⊢
              have HM := Lib.hid hM
              clear hM
              have qX : wX.heap[wr.heap.size]? = some (.cells #[.int .i64 t.kind, .string ⟨t.text.toArray⟩, .int .i64 t.line] 29 (0, 0)) := (hbX.block _ hzA).trans HQA.out
              have x0 : wX.cell? ⟨wr.heap.size, 0, none⟩ = some (.int .i64 t.kind) := by rw [Lib.cell_of_heap qX]; rfl
              have x1 : wX.cell? ⟨wr.heap.size, 1, none⟩ = some (.string ⟨t.text.toArray⟩) := by rw [Lib.cell_of_heap qX]; rfl
              have x2 : wX.cell? ⟨wr.heap.size, 2, none⟩ = some (.int .i64 t.line) := by rw [Lib.cell_of_heap qX]; rfl
              have HQX := Lib.hid qX
              have HBX := Lib.hid (show Below wr.heap.size wr wX from HBwA.out.trans (hbX.mono (by omega)))
              have hzX : wr.heap.size < wX.heap.size := by have := hbX.size; omega
              clear hbX qX a0 a1 a2 g0o h5
              go_wp2_with fail
              obtain ⟨q, hq, hqz⟩ : ∃ q : ByteArray, q.data.toList = quoteS t.kind t.text ∧ q.size ≤ 62 := ⟨⟨(quoteS t.kind t.text).toArray⟩, rfl, quote_len HRT.out⟩
              have HQ := Lib.hid hq
              clear hq
              refine (refWrite_one t HRT.out q HQ.out wX).mono ?_
              rintro e wB ⟨rfl, hbB⟩
              have hbB2 : Below wX.heap.size wX wB := ((Below.refl _ _).alloc (Nat.le_refl _) _).trans (hbB.mono (by omega))
              have qB : wB.heap[wr.heap.size]? = some (.cells #[.int .i64 t.kind, .string ⟨t.text.toArray⟩, .int .i64 t.line] 29 (0, 0)) := (hbB2.block _ hzX).trans HQX.out
              have HQB2 := Lib.hid qB
              have HBB2 := Lib.hid (show Below wr.heap.size wr wB from HBX.out.trans (hbB2.mono (by omega)))
              have hzB : wr.heap.size < wB.heap.size := by have := hbB2.size; omega
              clear hbB hbB2 qB x0 x1 x2
              have HIB := Lib.hid (isBuilder_kept HI.out HBB2.out)
              have HOB := Lib.hid (own_below HO.out HBB2.out)
              have hcl : (cat (its zs 0 (ts.take k))).length ≤ 100000 := by
                have h1 := its_cat_len zs (ts.take k) 0
                have h2 := sumText_le (ts.take k) (fun t ht => by have := HX.out t (List.mem_of_mem_take ht); unfold reachBytes; omega)
                have h3 : (ts.take k).length ≤ 300 := by rw [List.length_take]; omega
                have h4 : ((ts.take k).map fun t => t.text.length).sum ≤ 3000 := sum_take ts k HSUM.out
                omega
              go_wp2_with fail
              refine (writeString_any _ _ _ _ _ HIB.out ?b1 ?b2).mono ?_
              case b1 => rw [Lib.byteCells_length, ByteArray.size_append]; omega
              case b2 => omega
              rintro e wC ⟨rfl, hIC, hbC, hstC⟩
              have HIC := Lib.hid (show Lib.IsBuilder 40 5 w1.heap.size w1.heap.size _ wC from .inr hIC)
              have qC : wC.heap[wr.heap.size]? = some (.cells #[.int .i64 t.kind, .string ⟨t.text.toArray⟩, .int .i64 t.line] 29 (0, 0)) := by
                rw [hstC wr.heap.size hzB (by omega) (by intro cs fr; rw [HQB2.out]; simp), HQB2.out]
              have HOC := Lib.hid (own_keep HOB.out (fun gg hgg => by
                obtain ⟨cur, hcur⟩ := own_block HOB.out hgg
                obtain ⟨cs, hcs⟩ := bld_block HIB.out
                refine hstC gg ((HOB.out.lt gg hgg).2) ?_ (by intro cs' fr; rw [hcur]; simp)
                rintro rfl
                rw [hcur] at hcs
                simp at hcs))
              have hbnd : ∀ gg, (Value.slice ao k cap).ownBlock = some gg → gg < wr.heap.size := fun gg hgg => (HO.out.lt gg hgg).2
              have HBND := Lib.hid hbnd
              have HBC := Lib.hid (show Below w1.heap.size w1 wC from (HBEL.out.trans (HBB2.out.mono (by omega))).trans hbC)
              have hzC : wr.heap.size < wC.heap.size := by have := hbC.size; omega
              have y0 : wC.cell? ⟨wr.heap.size, 0, none⟩ = some (.int .i64 t.kind) := by rw [Lib.cell_of_heap qC]; rfl
              have y1 : wC.cell? ⟨wr.heap.size, 1, none⟩ = some (.string ⟨t.text.toArray⟩) := by rw [Lib.cell_of_heap qC]; rfl
              have y2 : wC.cell? ⟨wr.heap.size, 2, none⟩ = some (.int .i64 t.line) := by rw [Lib.cell_of_heap qC]; rfl
              have y3 : wC.frozen? ⟨wr.heap.size, 2, none⟩ = false := Lib.frozen_of_heap qC 2
              have HQC := Lib.hid qC
              have HOD := Lib.hid (own_keep (w' := wC.setCell ⟨wr.heap.size, 2, none⟩ (.int .i64 (1 + N + M))) HOC.out (fun gg hgg => Below.heap_setCell wC _ _ gg (by have := HBND.out gg hgg; simp; omega)))
              clear hIC hbC hstC qC hbnd
              go_wp2_with (at_builtin; refine wpList_append_own _ rfl _ _ 23 rfl w1.heap.size 29 i0 (.agg #[.int .i64 0, .string ⟨#[]⟩, .int .i64 0]) 3 32 Try.underlying23 hi hz0 hz1' hz2 rfl (by decide) _ _ _ rfl (HOD.out.alloc _) ⟨wC.heap.size, 0, none⟩ 1 1 (tcells ⟨t.kind, t.text, 1 + N + M⟩) rfl rfl ?e1 ?e2 ?e3 ?e4 ?e5 ?_)
              case e1 =>
                intro j u hj
                rw [addr_plain, Nat.zero_add, set_alloc_cell]
                simpa [tcells] using hj
              case e2 => intro u hu; simp [tcells] at hu; rcases hu with rfl | rfl | rfl <;> rfl
              case e3 => unfold maxLen; omega
              case e4 => omega
              case e5 => simp; omega
              intro v' wD hown' hgrow _
              have HO2 := Lib.hid hown'
              have HID := Lib.hid (bld_append HIC.out ⟨_, HQC.out⟩ HOC.out hgrow)
              have HBD := Lib.hid (show Below w1.heap.size w1 wD from ((HBC.out.setCell (p := ⟨wr.heap.size, 2, none⟩) (show w1.heap.size ≤ wr.heap.size by omega) _).alloc (by simp; omega) _).grown hgrow (by simp; omega) (fun gg hgg => (HOD.out.lt gg hgg).1))
              have hzD : w1.heap.size < wD.heap.size := by have := hgrow.size; simp [World.setCell] at this; omega
              clear hown' hgrow
              go_wp2_with fail
              go_roundw
              case rel =>
                have hsn : its zs 0 (ts.take (k + 1)) = its zs 0 (ts.take k) ++ [⟨g.data.toList, t.kind, t.text⟩] := by
                  rw [List.take_succ_eq_append_getElem hlt, HTT.out, its_snoc, List.length_take, Nat.min_eq_left (by omega), Nat.zero_add, HGL.out]
                have hnn : nls (its zs 0 (ts.take (k + 1))) = N + M := by rw [hsn, nls_snoc, HN.out, HM.out]
                refine ⟨k + 1, by omega, ?_, by go_num, ?_, ?_, HBD.out, ?_, hzD⟩
                · rw [hnn]; congr 1; omega
                · rw [hsn, lab_snoc, cellsOf_snoc, HN.out, HM.out]
                  have := HO2.out
                  rw [show ((1 + N + M : Nat) : Int) = 1 + (N : Int) + (M : Int) by omega]
                  exact this
                · have := HID.out
                  rw [Lib.strCells_eq, ByteArray.data_append, Array.toList_append, HQ.out, ← Lib.byteCells_append] at this
                  rw [hsn, cat_append]
                  simpa [cat] using this
                · rw [allRight_snoc ts k hlt, HAR.out, HTT.out, HRT.out]; rfl
              case measure => simp [intOf]; omega
          · have hz0' : zs[k]? = none := List.getElem?_eq_none (by omega)
            have HZ0 := Lib.hid hz0'
            clear hz0'
            go_wp2_with fail
            refine (count_from wA ⟨#[32]⟩ _ (Below.refl _ _)).mono ?_
            rintro e wX ⟨rfl, hbX⟩
            obtain ⟨g, hg⟩ : ∃ g : ByteArray, g = ⟨#[32]⟩ := ⟨_, rfl⟩
            have HGL := Lib.hid (show gapAt zs k = g.data.toList by rw [hg]; unfold gapAt; rw [HZ0.out])
            have hgz : g.size ≤ 10 := by rw [hg]; decide
            have hgn : nl g.data.toList ≤ 2 := by rw [hg]; decide
            rw [← hg]
            clear hg
            generalize hM : nl g.data.toList = M at hgn ⊢
            have HM := Lib.hid hM
            clear hM
            have qX : wX.heap[wr.heap.size]? = some (.cells #[.int .i64 t.kind, .string ⟨t.text.toArray⟩, .int .i64 t.line] 29 (0, 0)) := (hbX.block _ hzA).trans HQA.out
            have x0 : wX.cell? ⟨wr.heap.size, 0, none⟩ = some (.int .i64 t.kind) := by rw [Lib.cell_of_heap qX]; rfl
            have x1 : wX.cell? ⟨wr.heap.size, 1, none⟩ = some (.string ⟨t.text.toArray⟩) := by rw [Lib.cell_of_heap qX]; rfl
            have x2 : wX.cell? ⟨wr.heap.size, 2, none⟩ = some (.int .i64 t.line) := by rw [Lib.cell_of_heap qX]; rfl
            have HQX := Lib.hid qX
            have HBX := Lib.hid (show Below wr.heap.size wr wX from HBwA.out.trans (hbX.mono (by omega)))
            have hzX : wr.heap.size < wX.heap.size := by have := hbX.size; omega
            clear hbX qX a0 a1 a2
            go_wp2_with fail
            obtain ⟨q, hq, hqz⟩ : ∃ q : ByteArray, q.data.toList = quoteS t.kind t.text ∧ q.size ≤ 62 := ⟨⟨(quoteS t.kind t.text).toArray⟩, rfl, quote_len HRT.out⟩
            have HQ := Lib.hid hq
            clear hq
            refine (refWrite_one t HRT.out q HQ.out wX).mono ?_
            rintro e wB ⟨rfl, hbB⟩
            have hbB2 : Below wX.heap.size wX wB := ((Below.refl _ _).alloc (Nat.le_refl _) _).trans (hbB.mono (by omega))
            have qB : wB.heap[wr.heap.size]? = some (.cells #[.int .i64 t.kind, .string ⟨t.text.toArray⟩, .int .i64 t.line] 29 (0, 0)) := (hbB2.block _ hzX).trans HQX.out
            have HQB2 := Lib.hid qB
            have HBB2 := Lib.hid (show Below wr.heap.size wr wB from HBX.out.trans (hbB2.mono (by omega)))
            have hzB : wr.heap.size < wB.heap.size := by have := hbB2.size; omega
            clear hbB hbB2 qB x0 x1 x2
            have HIB := Lib.hid (isBuilder_kept HI.out HBB2.out)
            have HOB := Lib.hid (own_below HO.out HBB2.out)
            have hcl : (cat (its zs 0 (ts.take k))).length ≤ 100000 := by
              have h1 := its_cat_len zs (ts.take k) 0
              have h2 := sumText_le (ts.take k) (fun t ht => by have := HX.out t (List.mem_of_mem_take ht); unfold reachBytes; omega)
              have h3 : (ts.take k).length ≤ 300 := by rw [List.length_take]; omega
              have h4 : ((ts.take k).map fun t => t.text.length).sum ≤ 3000 := sum_take ts k HSUM.out
              omega
            go_wp2_with fail
            refine (writeString_any _ _ _ _ _ HIB.out ?b1 ?b2).mono ?_
            case b1 => rw [Lib.byteCells_length, ByteArray.size_append]; omega
            case b2 => omega
            rintro e wC ⟨rfl, hIC, hbC, hstC⟩
            have HIC := Lib.hid (show Lib.IsBuilder 40 5 w1.heap.size w1.heap.size _ wC from .inr hIC)
            have qC : wC.heap[wr.heap.size]? = some (.cells #[.int .i64 t.kind, .string ⟨t.text.toArray⟩, .int .i64 t.line] 29 (0, 0)) := by
              rw [hstC wr.heap.size hzB (by omega) (by intro cs fr; rw [HQB2.out]; simp), HQB2.out]
            have HOC := Lib.hid (own_keep HOB.out (fun gg hgg => by
              obtain ⟨cur, hcur⟩ := own_block HOB.out hgg
              obtain ⟨cs, hcs⟩ := bld_block HIB.out
              refine hstC gg ((HOB.out.lt gg hgg).2) ?_ (by intro cs' fr; rw [hcur]; simp)
              rintro rfl
              rw [hcur] at hcs
              simp at hcs))
            have hbnd : ∀ gg, (Value.slice ao k cap).ownBlock = some gg → gg < wr.heap.size := fun gg hgg => (HO.out.lt gg hgg).2
            have HBND := Lib.hid hbnd
            have HBC := Lib.hid (show Below w1.heap.size w1 wC from (HBEL.out.trans (HBB2.out.mono (by omega))).trans hbC)
            have hzC : wr.heap.size < wC.heap.size := by have := hbC.size; omega
            have y0 : wC.cell? ⟨wr.heap.size, 0, none⟩ = some (.int .i64 t.kind) := by rw [Lib.cell_of_heap qC]; rfl
            have y1 : wC.cell? ⟨wr.heap.size, 1, none⟩ = some (.string ⟨t.text.toArray⟩) := by rw [Lib.cell_of_heap qC]; rfl
            have y2 : wC.cell? ⟨wr.heap.size, 2, none⟩ = some (.int .i64 t.line) := by rw [Lib.cell_of_heap qC]; rfl
            have y3 : wC.frozen? ⟨wr.heap.size, 2, none⟩ = false := Lib.frozen_of_heap qC 2
            have HQC := Lib.hid qC
            have HOD := Lib.hid (own_keep (w' := wC.setCell ⟨wr.heap.size, 2, none⟩ (.int .i64 (1 + N + M))) HOC.out (fun gg hgg => Below.heap_setCell wC _ _ gg (by have := HBND.out gg hgg; simp; omega)))
            clear hIC hbC hstC qC hbnd
            go_wp2_with (at_builtin; refine wpList_append_own _ rfl _ _ 23 rfl w1.heap.size 29 i0 (.agg #[.int .i64 0, .string ⟨#[]⟩, .int .i64 0]) 3 32 Try.underlying23 hi hz0 hz1' hz2 rfl (by decide) _ _ _ rfl (HOD.out.alloc _) ⟨wC.heap.size, 0, none⟩ 1 1 (tcells ⟨t.kind, t.text, 1 + N + M⟩) rfl rfl ?e1 ?e2 ?e3 ?e4 ?e5 ?_)
            case e1 =>
              intro j u hj
              rw [addr_plain, Nat.zero_add, set_alloc_cell]
              simpa [tcells] using hj
            case e2 => intro u hu; simp [tcells] at hu; rcases hu with rfl | rfl | rfl <;> rfl
            case e3 => unfold maxLen; omega
            case e4 => omega
            case e5 => simp; omega
            intro v' wD hown' hgrow _
            have HO2 := Lib.hid hown'
            have HID := Lib.hid (bld_append HIC.out ⟨_, HQC.out⟩ HOC.out hgrow)
            have HBD := Lib.hid (show Below w1.heap.size w1 wD from ((HBC.out.setCell (p := ⟨wr.heap.size, 2, none⟩) (show w1.heap.size ≤ wr.heap.size by omega) _).alloc (by simp; omega) _).grown hgrow (by simp; omega) (fun gg hgg => (HOD.out.lt gg hgg).1))
            have hzD : w1.heap.size < wD.heap.size := by have := hgrow.size; simp [World.setCell] at this; omega
            clear hown' hgrow
            go_wp2_with fail
            go_roundw
            case rel =>
              have hsn : its zs 0 (ts.take (k + 1)) = its zs 0 (ts.take k) ++ [⟨g.data.toList, t.kind, t.text⟩] := by
                rw [List.take_succ_eq_append_getElem hlt, HTT.out, its_snoc, List.length_take, Nat.min_eq_left (by omega), Nat.zero_add, HGL.out]
              have hnn : nls (its zs 0 (ts.take (k + 1))) = N + M := by rw [hsn, nls_snoc, HN.out, HM.out]
              refine ⟨k + 1, by omega, ?_, by go_num, ?_, ?_, HBD.out, ?_, hzD⟩
              · rw [hnn]; congr 1; omega
              · rw [hsn, lab_snoc, cellsOf_snoc, HN.out, HM.out]
                have := HO2.out
                rw [show ((1 + N + M : Nat) : Int) = 1 + (N : Int) + (M : Int) by omega]
                exact this
              · have := HID.out
                rw [Lib.strCells_eq, ByteArray.data_append, Array.toList_append, HQ.out, ← Lib.byteCells_append] at this
                rw [hsn, cat_append]
                simpa [cat] using this
              · rw [allRight_snoc ts k hlt, HAR.out, HTT.out, HRT.out]; rfl
            case measure => simp [intOf]; omega
      · obtain rfl : k = ts.length := by omega
        have hO := HO.out
        have hIb := HI.out
        have hAR := HAR.out
        have hNN := HN.out
        rw [List.take_length] at hO hIb hAR hNN
        have hTS := toks_spaced zs ts hAR l1 HSUM.out
        have hcl := its_cat_len zs ts 0
        have hsum : (ts.map fun t => t.text.length).sum ≤ 3000 := HSUM.out
        have hLL : (lab 1 (its zs 0 ts)).length = ts.length := by rw [lab_length, its_length]
        have CT0 : ∀ w, Calls Try.prog 12 #[.string ⟨(cat (its zs 0 ts)).toArray⟩] w fun e w' =>
            ∃ A c, e = .returned (.tuple #[.slice A ts.length c, .int .i64 0, .int .i64 0]) ∧ Toks w' w'.heap.size A (lab 1 (its zs 0 ts)) ∧ Below w.heap.size w w' := by
          intro w
          have := tokens_any ⟨(cat (its zs 0 ts)).toArray⟩ (show (cat (its zs 0 ts)).length ≤ maxLen by unfold maxLen; omega) w
          rw [show (⟨(cat (its zs 0 ts)).toArray⟩ : ByteArray).data.toList = cat (its zs 0 ts) from rfl, hTS] at this
          refine this.mono ?_
          rintro e w' ⟨v, rfl, hown, hb⟩
          obtain ⟨A, c, rfl, hT⟩ := toks_of_own hown
          refine ⟨A, c, ?_, hT, hb⟩
          show Ending.returned (.tuple #[.slice A (lab 1 (its zs 0 ts)).length c, _, _]) = _
          rw [hLL]
          rfl
        have CT := Lib.hid CT0
        generalize lab 1 (its zs 0 ts) = L at hO hLL CT
        generalize cat (its zs 0 ts) = tx at hIb CT
        have HOW := Lib.hid (show wr.ownsRow w1.heap.size 29 3 (.slice ao L.length cap) L.length (cellsOf L) by rw [hLL]; exact hO)
        have HIB := Lib.hid hIb
        have HLL := Lib.hid hLL
        have hll : L.length ≤ 300 := by omega
        clear hO hIb hAR hNN hTS hcl hsum CT0 hLL
        go_wp2_with fail
        refine (string_keep _ _ _ _ HIB.out (by omega)).mono ?_
        rintro e w2 ⟨rfl, hb2, hok2⟩
        have hO2 : w2.ownsRow w1.heap.size 29 3 (.slice ao L.length cap) L.length (cellsOf L) := own_keep HOW.out (fun gg hgg => by
          obtain ⟨cur, hcur⟩ := own_block HOW.out hgg
          obtain ⟨cs, hcs⟩ := bld_block HIB.out
          rw [hcur]
          refine hok2 gg _ hcur ?_ (by intro c fz; simp)
          intro e
          injection e with e
          subst e
          rw [hcur] at hcs
          simp at hcs)
        obtain ⟨Aw, cw, ew, hTw⟩ := toks_of_own hO2
        injection ew with ew1 _ ew3
        subst ew1 ew3
        have HTW := Lib.hid hTw
        have HB2 := Lib.hid (show Below w1.heap.size w1 w2 from HBEL.out.trans hb2)
        have hz2' : w1.heap.size ≤ w2.heap.size := HB2.out.size
        clear hb2 hok2 hO2 hTw
        go_wp2_with fail
        refine (CT.out _).mono ?_
        rintro e w3 ⟨A3, c3, rfl, hT3, hb3⟩
        have HE := equal_same L A3 ao c3 cap _ _ w3 (by unfold maxLen; omega) hT3 (HTW.out.below hb3)
        rw [HLL.out] at HE
        have HE2 := Lib.hid HE
        have HB3 := Lib.hid (show Below w1.heap.size w1 w3 from HB2.out.trans (hb3.mono hz2'))
        clear hT3 hb3 HE
        go_wp2_with fail
        refine HE2.out.mono ?_
        rintro e w4 ⟨rfl, hb4⟩
        go_wp2_with fail
        go_ret
        exact ⟨rfl, HB1.out.trans ((HB3.out.trans (hb4.mono HB3.out.size)).mono hw1)⟩

end Go.Proofs.Ytgaiknigdgoaeaa
