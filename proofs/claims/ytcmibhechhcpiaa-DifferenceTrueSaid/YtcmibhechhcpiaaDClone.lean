/-
  slices.Clone of tests, uses and ints.
-/
import Derived.Test.YtcmibhechhcpiaaDRed
import Derived.Test.YtcmibhechhcpiaaDRefute
namespace Go.Proofs.Ytcmibhechhcpiaa
open Go.RowKit

theorem reads_cells {α : Type} {E : El α} {w : World} {b off : Nat} {xs : List α} (hp : 0 < E.size) (h : ∀ i x, xs[i]? = some x → ∀ j u, (E.enc x)[j]? = some u → w.cell? ⟨b, off + i * E.size + j, none⟩ = some u) : ∀ j u, (cellsE E xs)[j]? = some u → w.cell? ⟨b, off + j, none⟩ = some u := by
  intro j u hu
  have hj : j < (cellsE E xs).length := by
    rcases Nat.lt_or_ge j (cellsE E xs).length with h1 | h1
    · exact h1
    · rw [List.getElem?_eq_none h1] at hu; cases hu
  rw [cellsE_length] at hj
  have hd : j / E.size < xs.length := (Nat.div_lt_iff_lt_mul hp).2 hj
  have hm : j % E.size < E.size := Nat.mod_lt _ hp
  have hx : xs[j / E.size]? = some xs[j / E.size] := List.getElem?_eq_getElem hd
  have hv : (E.enc xs[j / E.size])[j % E.size]? = some ((E.enc xs[j / E.size])[j % E.size]'(by rw [E.len]; exact hm)) := List.getElem?_eq_getElem _
  have h2 := cellsE_get E hx hv
  have e : j / E.size * E.size + j % E.size = j := by rw [Nat.mul_comm]; exact Nat.div_add_mod j E.size
  rw [e, hu] at h2
  have h3 := h _ _ hx _ _ hv
  rw [show off + j / E.size * E.size + j % E.size = off + j by omega] at h3
  rw [h3, h2]

theorem cloneT_nil (n c : Nat) (w : World) :
    Calls Try.prog 14 #[.slice none n c] w fun e w' => e = .returned (.slice none 0 0) ∧ w = w' := by
  have q22 : ∀ (w : World) (a : Option Addr) (n c n' c' : Nat), (binOp .eql 22 (.slice a n c) (.slice none n' c')).run Try.prog w = .ok (.bool a.isNone) w := fun w a n c n' c' => Lib.run_eql_slice_nil w _ _ a n c n' c' Try.underlying22
  go_enter Try.func14, Try.ntmps14
  go_wp2
  go_ret
  exact ⟨rfl, rfl⟩
set_option maxHeartbeats 2000000 in
set_option maxRecDepth 100000 in
theorem cloneT_some (xs : List (Tst)) (ad : Addr) (c : Nat) (w : World) (hl : xs.length ≤ 1000000) (h : ∀ j u, (cellsE ETst xs)[j]? = some u → w.cell? (ad.add j) = some u) :
    Calls Try.prog 14 #[.slice (some ad) xs.length c] w fun e w' => ∃ v, e = .returned v ∧ OwnE ETst 32 w' w.heap.size v xs ∧ Below w.heap.size w w' := by
  have q22 : ∀ (w : World) (a : Option Addr) (n c n' c' : Nat), (binOp .eql 22 (.slice a n c) (.slice none n' c')).run Try.prog w = .ok (.bool a.isNone) w := fun w a n c n' c' => Lib.run_eql_slice_nil w _ _ a n c n' c' Try.underlying22
  obtain ⟨i0, hi, hz0, hz1, hz2⟩ := info_parts infoTst
  have HC := Lib.hid h
  clear h
  go_enter Try.func14, Try.ntmps14
  go_wp2_with (at_builtin; refine wpList_append_own _ rfl _ _ 22 rfl w.heap.size 32 i0 (.agg #[.int .i64 0, .int .i64 0, .int .i64 0, .int .i64 0, .int .i64 0]) 5 40 Try.underlying22 hi hz0 hz1 hz2 rfl (by decide) _ _ _ rfl (World.ownsRow_made w #[] 0 (Nat.le_refl _) (Nat.zero_le _) (by simp)) ad xs.length c (cellsE ETst xs) rfl ?qc1 ?qc2 ?qc3 ?qc4 ?qc5 ?qc6 ?_)
  case qc1 => exact cellsE_length ETst xs
  case qc2 =>
    intro j u hj
    exact (World.cell?_alloc_lt w _ _ (World.block_lt_of_cell? w _ (HC.out j u hj))).trans (HC.out j u hj)
  case qc3 => exact cellsE_one ETst xs
  case qc4 => unfold maxLen; omega
  case qc5 => omega
  case qc6 => simp
  intro v' w1 hown hgrow hnil
  go_wp2
  go_ret
  refine ⟨v', rfl, (by simpa using hown : w1.ownsRow w.heap.size 32 5 v' xs.length (cellsE ETst xs)), ?_⟩
  exact ((Below.refl _ w).alloc (Nat.le_refl _) _).grown hgrow (by simp) (by intro k hk; simp [Value.ownBlock] at hk; omega)
/-- a copy, in memory of the call's own -/
theorem cloneT_any (xs : List (Tst)) (A : Option Addr) (B c : Nat) (w : World) (hl : xs.length ≤ 1000000) (hT : Reads ETst w B A xs) :
    Calls Try.prog 14 #[.slice A xs.length c] w fun e w' => ∃ A' c', e = .returned (.slice A' xs.length c') ∧ Reads ETst w' w'.heap.size A' xs ∧ Below w.heap.size w w' := by
  have fin : ∀ e w', (∃ v, e = Ending.returned v ∧ OwnE ETst 32 w' w.heap.size v xs ∧ Below w.heap.size w w') → ∃ A' c', e = .returned (.slice A' xs.length c') ∧ Reads ETst w' w'.heap.size A' xs ∧ Below w.heap.size w w' := by
    rintro e w' ⟨v, rfl, h, hb⟩
    obtain ⟨A', c', rfl, hT'⟩ := h.reads
    exact ⟨A', c', rfl, hT', hb⟩
  rcases hT with rfl | ⟨b, off, rfl, _, h⟩
  · rcases A with _ | ad
    · refine (cloneT_nil 0 c w).mono ?_
      rintro e w' ⟨rfl, rfl⟩
      exact ⟨none, 0, rfl, .inl rfl, Below.refl _ _⟩
    · exact (cloneT_some [] ad c w (by simp) (by intro j u hj; simp [cellsE] at hj)).mono fin
  · refine (cloneT_some xs ⟨b, off, none⟩ c w hl (fun j u hu => ?_)).mono fin
    rw [addr_plain]
    exact reads_cells (by decide) h j u hu

theorem cloneU_nil (n c : Nat) (w : World) :
    Calls Try.prog 26 #[.slice none n c] w fun e w' => e = .returned (.slice none 0 0) ∧ w = w' := by
  have q22 : ∀ (w : World) (a : Option Addr) (n c n' c' : Nat), (binOp .eql 39 (.slice a n c) (.slice none n' c')).run Try.prog w = .ok (.bool a.isNone) w := fun w a n c n' c' => Lib.run_eql_slice_nil w _ _ a n c n' c' Try.underlying39
  go_enter Try.func26, Try.ntmps26
  go_wp2
  go_ret
  exact ⟨rfl, rfl⟩
set_option maxHeartbeats 2000000 in
set_option maxRecDepth 100000 in
theorem cloneU_some (xs : List (Int × Int)) (ad : Addr) (c : Nat) (w : World) (hl : xs.length ≤ 1000000) (h : ∀ j u, (cellsE EUse xs)[j]? = some u → w.cell? (ad.add j) = some u) :
    Calls Try.prog 26 #[.slice (some ad) xs.length c] w fun e w' => ∃ v, e = .returned v ∧ OwnE EUse 46 w' w.heap.size v xs ∧ Below w.heap.size w w' := by
  have q22 : ∀ (w : World) (a : Option Addr) (n c n' c' : Nat), (binOp .eql 39 (.slice a n c) (.slice none n' c')).run Try.prog w = .ok (.bool a.isNone) w := fun w a n c n' c' => Lib.run_eql_slice_nil w _ _ a n c n' c' Try.underlying39
  obtain ⟨i0, hi, hz0, hz1, hz2⟩ := info_parts infoUse
  have HC := Lib.hid h
  clear h
  go_enter Try.func26, Try.ntmps26
  go_wp2_with (at_builtin; refine wpList_append_own _ rfl _ _ 39 rfl w.heap.size 46 i0 (.agg #[.int .i64 0, .int .i64 0]) 2 16 Try.underlying39 hi hz0 hz1 hz2 rfl (by decide) _ _ _ rfl (World.ownsRow_made w #[] 0 (Nat.le_refl _) (Nat.zero_le _) (by simp)) ad xs.length c (cellsE EUse xs) rfl ?qc1 ?qc2 ?qc3 ?qc4 ?qc5 ?qc6 ?_)
  case qc1 => exact cellsE_length EUse xs
  case qc2 =>
    intro j u hj
    exact (World.cell?_alloc_lt w _ _ (World.block_lt_of_cell? w _ (HC.out j u hj))).trans (HC.out j u hj)
  case qc3 => exact cellsE_one EUse xs
  case qc4 => unfold maxLen; omega
  case qc5 => omega
  case qc6 => simp
  intro v' w1 hown hgrow hnil
  go_wp2
  go_ret
  refine ⟨v', rfl, (by simpa using hown : w1.ownsRow w.heap.size 46 2 v' xs.length (cellsE EUse xs)), ?_⟩
  exact ((Below.refl _ w).alloc (Nat.le_refl _) _).grown hgrow (by simp) (by intro k hk; simp [Value.ownBlock] at hk; omega)
/-- a copy, in memory of the call's own -/
theorem cloneU_any (xs : List (Int × Int)) (A : Option Addr) (B c : Nat) (w : World) (hl : xs.length ≤ 1000000) (hT : Reads EUse w B A xs) :
    Calls Try.prog 26 #[.slice A xs.length c] w fun e w' => ∃ A' c', e = .returned (.slice A' xs.length c') ∧ Reads EUse w' w'.heap.size A' xs ∧ Below w.heap.size w w' := by
  have fin : ∀ e w', (∃ v, e = Ending.returned v ∧ OwnE EUse 46 w' w.heap.size v xs ∧ Below w.heap.size w w') → ∃ A' c', e = .returned (.slice A' xs.length c') ∧ Reads EUse w' w'.heap.size A' xs ∧ Below w.heap.size w w' := by
    rintro e w' ⟨v, rfl, h, hb⟩
    obtain ⟨A', c', rfl, hT'⟩ := h.reads
    exact ⟨A', c', rfl, hT', hb⟩
  rcases hT with rfl | ⟨b, off, rfl, _, h⟩
  · rcases A with _ | ad
    · refine (cloneU_nil 0 c w).mono ?_
      rintro e w' ⟨rfl, rfl⟩
      exact ⟨none, 0, rfl, .inl rfl, Below.refl _ _⟩
    · exact (cloneU_some [] ad c w (by simp) (by intro j u hj; simp [cellsE] at hj)).mono fin
  · refine (cloneU_some xs ⟨b, off, none⟩ c w hl (fun j u hu => ?_)).mono fin
    rw [addr_plain]
    exact reads_cells (by decide) h j u hu

theorem cloneI_nil (n c : Nat) (w : World) :
    Calls Try.prog 30 #[.slice none n c] w fun e w' => e = .returned (.slice none 0 0) ∧ w = w' := by
  have q22 : ∀ (w : World) (a : Option Addr) (n c n' c' : Nat), (binOp .eql 24 (.slice a n c) (.slice none n' c')).run Try.prog w = .ok (.bool a.isNone) w := fun w a n c n' c' => Lib.run_eql_slice_nil w _ _ a n c n' c' Try.underlying24
  go_enter Try.func30, Try.ntmps30
  go_wp2
  go_ret
  exact ⟨rfl, rfl⟩
set_option maxHeartbeats 2000000 in
set_option maxRecDepth 100000 in
theorem cloneI_some (xs : List (Int)) (ad : Addr) (c : Nat) (w : World) (hl : xs.length ≤ 1000000) (h : ∀ j u, (cellsE EInt xs)[j]? = some u → w.cell? (ad.add j) = some u) :
    Calls Try.prog 30 #[.slice (some ad) xs.length c] w fun e w' => ∃ v, e = .returned v ∧ OwnE EInt 3 w' w.heap.size v xs ∧ Below w.heap.size w w' := by
  have q22 : ∀ (w : World) (a : Option Addr) (n c n' c' : Nat), (binOp .eql 24 (.slice a n c) (.slice none n' c')).run Try.prog w = .ok (.bool a.isNone) w := fun w a n c n' c' => Lib.run_eql_slice_nil w _ _ a n c n' c' Try.underlying24
  obtain ⟨i0, hi, hz0, hz1, hz2⟩ := info_parts infoInt
  have HC := Lib.hid h
  clear h
  go_enter Try.func30, Try.ntmps30
  go_wp2_with (at_builtin; refine wpList_append_own _ rfl _ _ 24 rfl w.heap.size 3 i0 (.int .i64 0) 1 8 Try.underlying24 hi hz0 hz1 hz2 rfl (by decide) _ _ _ rfl (World.ownsRow_made w #[] 0 (Nat.le_refl _) (Nat.zero_le _) (by simp)) ad xs.length c (cellsE EInt xs) rfl ?qc1 ?qc2 ?qc3 ?qc4 ?qc5 ?qc6 ?_)
  case qc1 => exact cellsE_length EInt xs
  case qc2 =>
    intro j u hj
    exact (World.cell?_alloc_lt w _ _ (World.block_lt_of_cell? w _ (HC.out j u hj))).trans (HC.out j u hj)
  case qc3 => exact cellsE_one EInt xs
  case qc4 => unfold maxLen; omega
  case qc5 => omega
  case qc6 => simp
  intro v' w1 hown hgrow hnil
  go_wp2
  go_ret
  refine ⟨v', rfl, (by simpa using hown : w1.ownsRow w.heap.size 3 1 v' xs.length (cellsE EInt xs)), ?_⟩
  exact ((Below.refl _ w).alloc (Nat.le_refl _) _).grown hgrow (by simp) (by intro k hk; simp [Value.ownBlock] at hk; omega)
/-- a copy, in memory of the call's own -/
theorem cloneI_any (xs : List (Int)) (A : Option Addr) (B c : Nat) (w : World) (hl : xs.length ≤ 1000000) (hT : Reads EInt w B A xs) :
    Calls Try.prog 30 #[.slice A xs.length c] w fun e w' => ∃ A' c', e = .returned (.slice A' xs.length c') ∧ Reads EInt w' w'.heap.size A' xs ∧ Below w.heap.size w w' := by
  have fin : ∀ e w', (∃ v, e = Ending.returned v ∧ OwnE EInt 3 w' w.heap.size v xs ∧ Below w.heap.size w w') → ∃ A' c', e = .returned (.slice A' xs.length c') ∧ Reads EInt w' w'.heap.size A' xs ∧ Below w.heap.size w w' := by
    rintro e w' ⟨v, rfl, h, hb⟩
    obtain ⟨A', c', rfl, hT'⟩ := h.reads
    exact ⟨A', c', rfl, hT', hb⟩
  rcases hT with rfl | ⟨b, off, rfl, _, h⟩
  · rcases A with _ | ad
    · refine (cloneI_nil 0 c w).mono ?_
      rintro e w' ⟨rfl, rfl⟩
      exact ⟨none, 0, rfl, .inl rfl, Below.refl _ _⟩
    · exact (cloneI_some [] ad c w (by simp) (by intro j u hj; simp [cellsE] at hj)).mono fin
  · refine (cloneI_some xs ⟨b, off, none⟩ c w hl (fun j u hu => ?_)).mono fin
    rw [addr_plain]
    exact reads_cells (by decide) h j u hu

end Go.Proofs.Ytcmibhechhcpiaa
