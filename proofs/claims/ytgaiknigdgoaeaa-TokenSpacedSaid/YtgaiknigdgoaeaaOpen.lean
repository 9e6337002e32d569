/-
  An argument that is a slice of tokens; the reference's Few.
-/
import Derived.Test.YtgaiknigdgoaeaaSlices
import Derived.ProofKit
import Derived.OpenShut
import Derived.ShutString
import Derived.Deep.Slices
import Derived.Deep.Strs
import Derived.SizedLaws
namespace Go.Proofs.Ytgaiknigdgoaeaa
open Go.RowKit

theorem cellsTok : Try.prog.cellsOf 29 = 3 := by kernel_rfl
theorem cellsInt : Try.prog.cellsOf 3 = 1 := by kernel_rfl
theorem cellsStr : Try.prog.cellsOf 9 = 1 := by kernel_rfl
theorem bytesTok : Try.prog.bytesOf 29 = 32 := by kernel_rfl
theorem laidOut : laidOutB Try.prog = true := by kernel_rfl

section
open Go.ChangeShapes Go.WideShapes Go.Deep

/-- what a slice of tokens that came in reads as -/
theorem open_toks {H : Type} {enc : TypeId × Value → H} {W : World} {fuel : Nat} {cs : List Value} {x : DataW H × List MemPlace}
    (h : DataW.trod enc Try.prog W 0 (fun _ => true) true fuel 23 cs = some x) (hw : ∀ n ∈ DataW.weights Try.prog 23 x.1, n ≤ reachBytes) :
    ∃ (A : Option Addr) (ts : List Tok) (c : Nat), cs = [.slice A ts.length c] ∧ Toks W W.heap.size A ts ∧ ts.length * 32 ≤ reachBytes ∧ ∀ t ∈ ts, t.text.length ≤ reachBytes := by
  rcases open_slice Try.underlying23 h with ⟨rfl, rfl⟩ | ⟨a, len, cap, m, n, D, Pl, rfl, _, hlc, hcm, hm, rfl, hi⟩
  · exact ⟨none, [], 0, rfl, .inl rfl, by simp, by simp⟩
  · simp only [if_true] at hm
    subst hm
    have hwt : ∀ i, i < len → ∀ k ∈ DataW.weights Try.prog 29 (D i), k ≤ reachBytes := by
      intro i hil k hk
      refine hw k ?_
      simp only [DataW.weights, Try.underlying23]
      refine List.mem_cons_of_mem _ (List.mem_append_left _ ?_)
      have hmem : D i ∈ (List.range len).map D := List.mem_map.2 ⟨i, List.mem_range.2 hil, rfl⟩
      generalize (List.range len).map D = l at hmem
      induction l with
      | nil => simp at hmem
      | cons d r ih =>
        simp only [DataW.weightsAll, List.mem_append]
        rcases List.mem_cons.1 hmem with e | hmem
        · exact .inl (by rw [← e]; exact hk)
        · exact .inr (ih hmem)
    have hlen : len * 32 ≤ reachBytes := by
      have := hw ((((List.range len).map D).length + ((List.range (m - len)).map fun j => D (len + j)).length) * Try.prog.bytesOf 29) (by simp [DataW.weights, Try.underlying23])
      rw [bytesTok] at this
      simp only [List.length_map, List.length_range] at this
      omega
    have hget : ∀ i, ∃ t : Tok, i < len → W.cell? (a.add (i * 3)) = some (.int .i64 t.kind) ∧ W.cell? (a.add (i * 3 + 1)) = some (.string ⟨t.text.toArray⟩) ∧ W.cell? (a.add (i * 3 + 2)) = some (.int .i64 t.line) ∧ t.text.length ≤ reachBytes := by
      intro i
      by_cases hil : i < len
      · obtain ⟨cs', hc, ht⟩ := hi i (by omega)
        rw [cellsTok] at hc
        obtain ⟨_, hl3, hat⟩ := World.cells?_some hc
        obtain ⟨y0, y1, y2, n', hx, _, g0, g1, g2⟩ := trod_struct3 Try.underlying29 ht
        match cs', hl3 with
        | [c0, c1, c2], _ =>
          simp only [cellsInt, cellsStr] at g0 g1 g2
          obtain ⟨k, e0, rfl, _⟩ := DataW.trod_int Try.underlying3 g0
          obtain ⟨s, e1, rfl, _⟩ := DataW.trod_string Try.underlying9 g1
          obtain ⟨l, e2, rfl, _⟩ := DataW.trod_int Try.underlying3 g2
          simp at e0 e1 e2
          subst e0 e1 e2
          simp only [Prod.mk.injEq] at hx
          refine ⟨⟨k, s.data.toList, l⟩, fun _ => ⟨?_, ?_, ?_, ?_⟩⟩
          · have := hat 0 (by omega)
            rw [add_add] at this
            simpa using this
          · have := hat 1 (by omega)
            rw [add_add] at this
            simpa using this
          · have := hat 2 (by omega)
            rw [add_add] at this
            simpa using this
          · refine hwt i hil _ ?_
            rw [hx.1]
            simp [DataW.weights, Try.underlying29, DataW.weightsEach]
      · exact ⟨⟨0, [], 0⟩, fun h => absurd h hil⟩
    obtain ⟨f, hf⟩ := Classical.axiomOfChoice hget
    have hlf : ((List.range len).map f).length = len := by simp
    refine ⟨some a, (List.range len).map f, m, by rw [hlf], ?_, by rw [hlf]; exact hlen, ?_⟩
    · by_cases h0 : len = 0
      · subst h0; exact .inl rfl
      · obtain ⟨b, off, spot⟩ := a
        have hc0 := (hf 0 (by omega)).1
        have hspot : spot = none := by simpa [Addr.add] using World.cell?_spot hc0
        subst hspot
        have hb : b < W.heap.size := by
          have := World.block_lt_of_cell? W _ hc0
          simpa [Addr.add] using this
        refine .inr ⟨b, off, rfl, hb, fun i t ht => ?_⟩
        have hil : i < len := by
          rcases Nat.lt_or_ge i len with h1 | h1
          · exact h1
          · rw [List.getElem?_eq_none (by rw [hlf]; exact h1)] at ht; cases ht
        rw [List.getElem?_map, List.getElem?_range hil] at ht
        simp only [Option.map_some, Option.some.injEq] at ht
        subst ht
        obtain ⟨k0, k1, k2, _⟩ := hf i hil
        rw [addr_plain] at k0 k1 k2
        exact ⟨k0, k1, k2⟩
    · intro t ht
      obtain ⟨i, hir, rfl⟩ := List.mem_map.1 ht
      exact (hf i (List.mem_range.1 hir)).2.2.2
end

def sumText (ts : List Tok) : Nat := (ts.map fun t => t.text.length).sum
theorem sumText_snoc (ts : List Tok) (t : Tok) : sumText (ts ++ [t]) = sumText ts + t.text.length := by simp [sumText]
def fewB (ts : List Tok) : Bool := decide (ts.length ≤ 300) && decide (sumText ts ≤ 3000)

theorem sumText_le (ts : List Tok) (h : ∀ t ∈ ts, t.text.length ≤ reachBytes) : sumText ts ≤ ts.length * reachBytes := by
  induction ts with
  | nil => simp [sumText]
  | cons t r ih =>
    have h1 := h t (by simp)
    have h2 := ih (fun x hx => h x (by simp [hx]))
    simp only [sumText, List.map_cons, List.sum_cons, List.length_cons, Nat.succ_mul] at h2 ⊢
    omega

theorem few_text {ts : List Tok} (h : fewB ts = true) : ts.length ≤ 300 ∧ sumText ts ≤ 3000 ∧ ∀ t ∈ ts, t.text.length ≤ 3000 := by
  unfold fewB at h
  simp only [Bool.and_eq_true, decide_eq_true_eq] at h
  refine ⟨h.1, h.2, fun t ht => ?_⟩
  have hle : t.text.length ≤ sumText ts := by
    clear h
    induction ts with
    | nil => simp at ht
    | cons a r ih =>
      simp only [sumText, List.map_cons, List.sum_cons] at ih ⊢
      rcases List.mem_cons.1 ht with rfl | ht
      · omega
      · have := ih ht
        omega
  omega

set_option maxRecDepth 100000 in
set_option maxHeartbeats 1000000 in
theorem few_any (ts : List Tok) (A : Option Addr) (c : Nat) (w : World) (hl : ts.length ≤ 4398046511104) (hx : ∀ t ∈ ts, t.text.length ≤ reachBytes) (hT : Toks w w.heap.size A ts) :
    Calls Try.prog 15 #[.slice A ts.length c] w fun e w' => e = .returned (.bool (fewB ts)) ∧ w = w' := by
  have HT := Lib.hid hT
  have HX := Lib.hid hx
  clear hT hx
  go_enter Try.func15, Try.ntmps15
  go_wp2
  go_loop [3, 4] (fun n i => ∃ k : Nat, k ≤ ts.length ∧ k ≤ 301 ∧ n = .int .i64 (sumText (ts.take k)) ∧ i = .int .i64 k) (fun _ i => 301 - (intOf i).toNat)
  case atStart => exact ⟨0, Nat.zero_le _, by omega, rfl, rfl⟩
  case round =>
    obtain ⟨k, hk, hk3, rfl, rfl⟩ := hrel
    by_cases hlt : k < ts.length
    · by_cases h301 : k < 301
      · obtain ⟨b, off, rfl, hb, c0, c1, c2⟩ := HT.out.at_ hlt
        have hs := sumText_le (ts.take k) (fun t ht => HX.out t (List.mem_of_mem_take ht))
        have ht := HX.out ts[k] (List.getElem_mem hlt)
        have hr : reachBytes ≤ 140737488351232 := by decide
        have hlk : (ts.take k).length ≤ 301 := by rw [List.length_take]; omega
        have hs2 : sumText (ts.take k) ≤ 42361984000000000 := Nat.le_trans hs (Nat.le_trans (Nat.mul_le_mul hlk hr) (by decide))
        have ht2 : ts[k].text.length ≤ 140737488351232 := by omega
        have H1 := Lib.hid (show sumText (ts.take (k + 1)) = sumText (ts.take k) + ts[k].text.length by rw [List.take_succ_eq_append_getElem hlt, sumText_snoc])
        have hzz : (⟨ts[k].text.toArray⟩ : ByteArray).size = ts[k].text.length := rfl
        clear hs ht hr hlk
        generalize sumText (ts.take k) = n at hs2 H1 ⊢
        go_wp2
        go_round
        case rel => exact ⟨k + 1, by omega, by omega, by rw [H1.out]; go_num, by go_num⟩
        case measure => simp [intOf]; omega
      · have H1 := Lib.hid (show fewB ts = false by unfold fewB; rw [decide_eq_false (by omega)]; rfl)
        have hd : decide ((k : Int) < 301) = false := by simp; omega
        go_wp2
        go_ret
        exact ⟨ret_bool (by rw [H1.out]), rfl⟩
    · have hke : ts.take k = ts := List.take_of_length_le (by omega)
      have hks : sumText (ts.take k) = sumText ts := by rw [hke]
      have hl3 : ts.length ≤ 301 := by omega
      clear hl
      by_cases h300 : ts.length ≤ 300
      · have H1 := Lib.hid (show fewB ts = decide ((sumText (ts.take k) : Int) ≤ 3000) by
          rw [hks]; unfold fewB; rw [decide_eq_true h300, Bool.true_and, Bool.eq_iff_iff]; simp; omega)
        clear hke hks
        generalize sumText (ts.take k) = n at H1 ⊢
        go_wp2
        go_ret
        exact ⟨ret_bool (by rw [H1.out]), rfl⟩
      · have H1 := Lib.hid (show fewB ts = false by unfold fewB; rw [decide_eq_false h300]; rfl)
        have hd : decide ((ts.length : Int) ≤ 300) = false := by simp; omega
        clear hke hks
        generalize sumText (ts.take k) = n
        go_wp2
        go_ret
        exact ⟨ret_bool (by rw [H1.out]), rfl⟩

end Go.Proofs.Ytgaiknigdgoaeaa
