/-
  Contracts of slices.Equal, slices.Clone at tokens; of the reference's Few.
-/
import Derived.Test.YtgaiknigdgoaeaaAwake
import Derived.Test.YtgaiknigdgoaeaaOne2
import Derived.Laws.StructEq
import Derived.WalkSpells
namespace Go.Proofs.Ytgaiknigdgoaeaa
open Go.RowKit

theorem tok_neq (k : Int) (s : ByteArray) (l : Int) (w : World) :
    (binOp .neq 29 (.agg #[.int .i64 k, .string s, .int .i64 l]) (.agg #[.int .i64 k, .string s, .int .i64 l])).run Try.prog w = .ok (.bool false) w := by
  have hS : Try.prog.underlying 29 = some (.struct (Try.prog.fieldsOf 29)) := by kernel_rfl
  have hp : Try.prog.stoodInHeld 29 = false := by kernel_rfl
  have u1 := Try.underlying3
  have u2 := Try.underlying9
  rw [run_neq_struct, show (10000 : Nat) = 9999 + 1 from rfl, run_equalIn_agg w 9999 29 _ _ hS hp]
  simp only [Program.fieldsOf, Try.underlying29]
  go_simp

theorem tok_guard (o : BinOp) (x y : Operand) (xs ys : Array Value) (w : World) : (eqGuard o 29 x y (.agg xs) (.agg ys)).run Try.prog w = .ok () w :=
  run_eqGuard_agg w o 29 x y xs ys (by kernel_rfl)

set_option maxHeartbeats 1000000 in
/-- two slices that read as the same tokens are equal -/
theorem equal_same (ts : List Tok) (A A' : Option Addr) (c c' B B' : Nat) (w : World) (hl : ts.length ≤ maxLen) (hA : Toks w B A ts) (hB : Toks w B' A' ts) :
    Calls Try.prog 14 #[.slice A ts.length c, .slice A' ts.length c'] w fun e w' => e = .returned (.bool true) ∧ Below w.heap.size w w' := by
  unfold maxLen at hl
  have HA := Lib.hid hA
  have HB := Lib.hid hB
  clear hA hB
  go_enter Try.func14, Try.ntmps14
  go_wp2
  go_loopw [13] (fun i wr => ∃ k q : Nat, k ≤ ts.length ∧ i = .int .i64 k ∧ wr = w.drewN q) (fun i _ => ts.length - (intOf i).toNat)
  case atStart => exact ⟨0, 0, Nat.zero_le _, rfl, rfl⟩
  case round =>
    obtain ⟨k, q, hk, rfl, rfl⟩ := hrel
    by_cases hlt : k < ts.length
    · obtain ⟨b, off, rfl, hb, c0, c1, c2⟩ := HA.out.at_ hlt
      obtain ⟨b', off', rfl, hb', d0, d1, d2⟩ := HB.out.at_ hlt
      have hn := tok_neq ts[k].kind ⟨ts[k].text.toArray⟩ ts[k].line
      have hg := tok_guard
      have hk0 : (0 : Int) ≤ (k : Int) := by omega
      have hk1 : (k : Int) < (ts.length : Int) := by omega
      have hk2 : ((k : Int)).toNat = k := by omega
      go_wp2_with fail
      go_quiet (fail)
      go_wp2_with fail
      go_roundw
      case rel => exact ⟨k + 1, _, by omega, by go_num, rfl⟩
      case measure => simp [intOf]; omega
    · go_wp2
      go_ret
      exact ⟨rfl, below_draws (Below.refl _ _) q⟩

theorem clone_nil (n c : Nat) (w : World) :
    Calls Try.prog 17 #[.slice none n c] w fun e w' => e = .returned (.slice none 0 0) ∧ w = w' := by
  have q22 : ∀ (w : World) (a : Option Addr) (n c n' c' : Nat), (binOp .eql 23 (.slice a n c) (.slice none n' c')).run Try.prog w = .ok (.bool a.isNone) w := fun w a n c n' c' => Lib.run_eql_slice_nil w _ _ a n c n' c' Try.underlying23
  go_enter Try.func17, Try.ntmps17
  go_wp2
  go_ret
  exact ⟨rfl, rfl⟩

theorem addr_plain (b off j : Nat) : (⟨b, off, none⟩ : Addr).add j = ⟨b, off + j, none⟩ := Addr.add_lit _ _ _

theorem cellsOf_cell {w : World} {b off : Nat} {ts : List Tok} (h : ∀ i t, ts[i]? = some t →
    w.cell? ⟨b, off + i * 3, none⟩ = some (.int .i64 t.kind) ∧ w.cell? ⟨b, off + i * 3 + 1, none⟩ = some (.string ⟨t.text.toArray⟩) ∧ w.cell? ⟨b, off + i * 3 + 2, none⟩ = some (.int .i64 t.line)) :
    ∀ j u, (cellsOf ts)[j]? = some u → w.cell? ⟨b, off + j, none⟩ = some u := by
  intro j u hu
  have hj : j < (cellsOf ts).length := by
    rcases Nat.lt_or_ge j (cellsOf ts).length with h1 | h1
    · exact h1
    · rw [List.getElem?_eq_none h1] at hu; cases hu
  rw [cellsOf_length] at hj
  have hi : j / 3 < ts.length := by omega
  obtain ⟨g1, g2, g3⟩ := cellsOf_get ts (j / 3) ts[j / 3] (List.getElem?_eq_getElem hi)
  obtain ⟨c1, c2, c3⟩ := h (j / 3) ts[j / 3] (List.getElem?_eq_getElem hi)
  have h3 : j % 3 = 0 ∨ j % 3 = 1 ∨ j % 3 = 2 := by omega
  rcases h3 with h3 | h3 | h3
  · obtain e : j = j / 3 * 3 := by omega
    rw [← e] at g1
    rw [hu] at g1
    rw [g1]
    rw [show off + j = off + j / 3 * 3 by omega]
    exact c1
  · obtain e : j = j / 3 * 3 + 1 := by omega
    rw [← e] at g2
    rw [hu] at g2
    rw [g2]
    rw [show off + j = off + j / 3 * 3 + 1 by omega]
    exact c2
  · obtain e : j = j / 3 * 3 + 2 := by omega
    rw [← e] at g3
    rw [hu] at g3
    rw [g3]
    rw [show off + j = off + j / 3 * 3 + 2 by omega]
    exact c3

theorem cellsOf_one (ts : List Tok) : ∀ u ∈ cellsOf ts, u.oneCell' = true := by
  intro u hu
  simp only [cellsOf, List.mem_flatMap, tcells] at hu
  obtain ⟨t, _, h⟩ := hu
  simp at h
  rcases h with rfl | rfl | rfl <;> rfl

set_option maxHeartbeats 2000000 in
set_option maxRecDepth 100000 in
theorem clone_some (ts : List Tok) (ad : Addr) (c : Nat) (w : World) (hl : ts.length ≤ 1000000) (h : ∀ j u, (cellsOf ts)[j]? = some u → w.cell? (ad.add j) = some u) :
    Calls Try.prog 17 #[.slice (some ad) ts.length c] w fun e w' =>
      ∃ v, e = .returned v ∧ w'.ownsRow w.heap.size 29 3 v ts.length (cellsOf ts) ∧ Below w.heap.size w w' := by
  have q22 : ∀ (w : World) (a : Option Addr) (n c n' c' : Nat), (binOp .eql 23 (.slice a n c) (.slice none n' c')).run Try.prog w = .ok (.bool a.isNone) w := fun w a n c n' c' => Lib.run_eql_slice_nil w _ _ a n c n' c' Try.underlying23
  obtain ⟨i0, hi, hz0, hz1, hz2⟩ := info_parts infoTok
  have HC := Lib.hid h
  clear h
  go_enter Try.func17, Try.ntmps17
  go_wp2_with (at_builtin; refine wpList_append_own _ rfl _ _ 23 rfl w.heap.size 29 i0 (.agg #[.int .i64 0, .string ⟨#[]⟩, .int .i64 0]) 3 32 Try.underlying23 hi hz0 hz1 hz2 rfl (by decide) _ _ _ rfl (World.ownsRow_made w #[] 0 (Nat.le_refl _) (Nat.zero_le _) (by simp)) ad ts.length c (cellsOf ts) rfl ?qc1 ?qc2 ?qc3 ?qc4 ?qc5 ?qc6 ?_)
  case qc1 => exact cellsOf_length ts
  case qc2 =>
    intro j u hj
    exact (World.cell?_alloc_lt w _ _ (World.block_lt_of_cell? w _ (HC.out j u hj))).trans (HC.out j u hj)
  case qc3 => exact cellsOf_one ts
  case qc4 => unfold maxLen; omega
  case qc5 => omega
  case qc6 => simp
  intro v' w1 hown hgrow hnil
  go_wp2
  go_ret
  refine ⟨v', rfl, by simpa using hown, ?_⟩
  exact ((Below.refl _ w).alloc (Nat.le_refl _) _).grown hgrow (by simp) (by intro k hk; simp [Value.ownBlock] at hk; omega)

/-- slices.Clone of tokens: the same tokens, in memory of the call's own -/
theorem clone_any (ts : List Tok) (A : Option Addr) (B c : Nat) (w : World) (hl : ts.length ≤ 1000000) (hT : Toks w B A ts) :
    Calls Try.prog 17 #[.slice A ts.length c] w fun e w' =>
      ∃ A' c', e = .returned (.slice A' ts.length c') ∧ Toks w' w'.heap.size A' ts ∧ Below w.heap.size w w' := by
  rcases hT with rfl | ⟨b, off, rfl, _, h⟩
  · rcases A with _ | ad
    · refine (clone_nil 0 c w).mono ?_
      rintro e w' ⟨rfl, rfl⟩
      exact ⟨none, 0, rfl, .inl rfl, Below.refl _ _⟩
    · refine (clone_some [] ad c w (by simp) (by intro j u hj; simp [cellsOf] at hj)).mono ?_
      rintro e w' ⟨v, rfl, hown, hb⟩
      obtain ⟨A', c', rfl, hT'⟩ := toks_of_own hown
      exact ⟨A', c', rfl, hT', hb⟩
  · refine (clone_some ts ⟨b, off, none⟩ c w hl (by intro j u hj; rw [addr_plain]; exact cellsOf_cell h j u hj)).mono ?_
    rintro e w' ⟨v, rfl, hown, hb⟩
    obtain ⟨A', c', rfl, hT'⟩ := toks_of_own hown
    exact ⟨A', c', rfl, hT', hb⟩

end Go.Proofs.Ytgaiknigdgoaeaa
