/-
  Contracts of Same (program and reference) and of the reference's Few.
-/
import Derived.Test.YtgaiknigdgoaeaaSlices
import Derived.BigQuiet
import Derived.Deep.QuietTactic
namespace Go.Proofs.Ytgaiknigdgoaeaa
open Go.RowKit

def eqT (a b : Tok) : Bool := a.kind == b.kind && a.text == b.text
def sameR : List Tok → List Tok → Bool
  | [], [] => true
  | a :: r, b :: s => eqT a b && sameR r s
  | _, _ => false

theorem sameR_len {a b : List Tok} (h : a.length ≠ b.length) : sameR a b = false := by
  induction a generalizing b with
  | nil => cases b with
    | nil => simp at h
    | cons _ _ => rfl
  | cons x r ih => cases b with
    | nil => rfl
    | cons y s =>
      simp only [List.length_cons] at h
      simp only [sameR, ih (b := s) (by omega), Bool.and_false]
theorem sameR_comm (a b : List Tok) : sameR a b = sameR b a := by
  induction a generalizing b with
  | nil => cases b <;> rfl
  | cons x r ih => cases b with
    | nil => rfl
    | cons y s =>
      simp only [sameR, ih s, eqT]
      rw [BEq.comm (a := x.kind), BEq.comm (a := x.text)]
theorem sameR_refl (a : List Tok) : sameR a a = true := by
  induction a with
  | nil => rfl
  | cons x r ih => simp [sameR, eqT, ih]
theorem sameR_of_same {a b : List Tok} (h : same a b = true) : sameR a b = true := by
  unfold same at h
  rw [beq_iff_eq] at h
  induction a generalizing b with
  | nil => cases b with
    | nil => rfl
    | cons _ _ => simp at h
  | cons x r ih => cases b with
    | nil => simp at h
    | cons y s =>
      simp only [List.map_cons, List.cons.injEq, Prod.mk.injEq] at h
      simp [sameR, eqT, h.1.1, h.1.2, ih h.2]

theorem drop_tok (ts : List Tok) (k : Nat) (h : k < ts.length) : ts.drop k = ts[k] :: ts.drop (k + 1) := List.drop_eq_getElem_cons h

theorem sameR_true {a b : List Tok} {k : Nat} (ha : k < a.length) (hb : k < b.length) (h : eqT a[k] b[k] = true) : sameR (a.drop k) (b.drop k) = sameR (a.drop (k + 1)) (b.drop (k + 1)) := by
  rw [drop_tok a k ha, drop_tok b k hb, sameR, h, Bool.true_and]
theorem sameR_false {a b : List Tok} {k : Nat} (ha : k < a.length) (hb : k < b.length) (h : eqT a[k] b[k] = false) : sameR (a.drop k) (b.drop k) = false := by
  rw [drop_tok a k ha, drop_tok b k hb, sameR, h, Bool.false_and]

theorem text_beq (a b : List UInt8) : ((⟨a.toArray⟩ : ByteArray).toList == (⟨b.toArray⟩ : ByteArray).toList) = (a == b) := by
  rw [ByteArray.toList_eq, ByteArray.toList_eq]

theorem closure_any (a b : Tok) (w : World) :
    Calls Try.prog 41 #[.agg #[.int .i64 a.kind, .string ⟨a.text.toArray⟩, .int .i64 a.line], .agg #[.int .i64 b.kind, .string ⟨b.text.toArray⟩, .int .i64 b.line]] w fun e w' =>
      e = .returned (.bool (eqT a b)) ∧ Below w.heap.size w w' := by
  have ht := text_beq a.text b.text
  have H := Lib.hid (show eqT a b = (a.kind == b.kind && a.text == b.text) from rfl)
  cases hk : (a.kind == b.kind) with
  | false =>
    clear ht
    have H2 := Lib.hid (show eqT a b = false by rw [H.out, hk]; rfl)
    go_enter Try.func41, Try.ntmps41
    go_wp2
    go_ret
    exact ⟨ret_bool (by rw [H2.out]), ((Below.refl _ _).alloc (Nat.le_refl _) _).alloc (by simp) _⟩
  | true =>
    cases hx : (a.text == b.text) with
    | false =>
      have H2 := Lib.hid (show eqT a b = false by rw [H.out, hx]; simp)
      clear ht
      go_enter Try.func41, Try.ntmps41
      go_wp2
      go_ret
      exact ⟨ret_bool (by rw [H2.out]), ((Below.refl _ _).alloc (Nat.le_refl _) _).alloc (by simp) _⟩
    | true =>
      have H2 := Lib.hid (show eqT a b = true by rw [H.out, hk, hx]; rfl)
      clear ht
      go_enter Try.func41, Try.ntmps41
      go_wp2
      go_ret
      exact ⟨ret_bool (by rw [H2.out]), ((Below.refl _ _).alloc (Nat.le_refl _) _).alloc (by simp) _⟩

set_option maxHeartbeats 2000000 in
theorem equalFunc_any (xs ys : List Tok) (A A' : Option Addr) (c c' : Nat) (w : World) (hx : xs.length ≤ maxLen) (hy : ys.length ≤ maxLen) (hA : Toks w w.heap.size A xs) (hB : Toks w w.heap.size A' ys) :
    Calls Try.prog 40 #[.slice A xs.length c, .slice A' ys.length c', .func (.func 41) #[] #[]] w fun e w' =>
      e = .returned (.bool (sameR xs ys)) ∧ Below w.heap.size w w' := by
  unfold maxLen at hx hy
  have hy' : ys.length ≤ 9223372036854775807 := hy
  by_cases hl : xs.length = ys.length
  · have t : ((xs.length : Int) != (ys.length : Int)) = false := by simp; omega
    have HA := Lib.hid hA
    have HB := Lib.hid hB
    have hyl : ys.length ≤ xs.length := by omega
    have hxl : xs.length ≤ ys.length := by omega
    clear hA hB hl
    go_enter Try.func40, Try.ntmps40
    go_wp2
    go_loopw [17] (fun i wr => ∃ k : Nat, k ≤ xs.length ∧ i = .int .i64 k ∧ Below w.heap.size w wr ∧ sameR xs ys = sameR (xs.drop k) (ys.drop k)) (fun i _ => xs.length - (intOf i).toNat)
    case atStart => exact ⟨0, Nat.zero_le _, rfl, Below.refl _ _, rfl⟩
    case round =>
      obtain ⟨k, hk, rfl, hbel, hs⟩ := hrel
      have HS := Lib.hid hs
      clear hs
      by_cases hlt : k < xs.length
      · have hlt' : k < ys.length := by omega
        obtain ⟨b, off, rfl, hb, c0, c1, c2⟩ := (HA.out.below hbel).at_ hlt
        obtain ⟨b', off', rfl, hb', d0, d1, d2⟩ := (HB.out.below hbel).at_ hlt'
        have d0' : ∀ o, (wr.alloc o).cell? ⟨b', off' + k * 3, none⟩ = some (.int .i64 ys[k].kind) := fun o => (World.cell?_alloc_lt wr o _ (show b' < wr.heap.size by have := hbel.size; omega)).trans d0
        have d1' : ∀ o, (wr.alloc o).cell? ⟨b', off' + k * 3 + 1, none⟩ = some (.string ⟨ys[k].text.toArray⟩) := fun o => (World.cell?_alloc_lt wr o _ (show b' < wr.heap.size by have := hbel.size; omega)).trans d1
        have d2' : ∀ o, (wr.alloc o).cell? ⟨b', off' + k * 3 + 2, none⟩ = some (.int .i64 ys[k].line) := fun o => (World.cell?_alloc_lt wr o _ (show b' < wr.heap.size by have := hbel.size; omega)).trans d2
        have HBEL := Lib.hid hbel
        have hwr := hbel.size
        clear d0 d1 d2 hbel
        cases he : eqT xs[k] ys[k] with
        | true =>
          have H1 := Lib.hid (sameR_true hlt hlt' he)
          have HE := Lib.hid he
          clear he
          go_wp2_with fail
          refine (closure_any xs[k] ys[k] _).mono ?_
          rintro e w2 ⟨rfl, hb2⟩
          rw [HE.out]
          have HB2 := Lib.hid (((HBEL.out.alloc (by omega) _).alloc (by simp; omega) _).trans (hb2.mono (by simp; omega)))
          clear hb2
          go_wp2_with fail
          go_roundw
          case rel => exact ⟨k + 1, by omega, by go_num, HB2.out, by rw [HS.out, H1.out]⟩
          case measure => simp [intOf]; omega
        | false =>
          have H1 := Lib.hid (sameR_false hlt hlt' he)
          have HE := Lib.hid he
          clear he
          go_wp2_with fail
          refine (closure_any xs[k] ys[k] _).mono ?_
          rintro e w2 ⟨rfl, hb2⟩
          rw [HE.out]
          have HB2 := Lib.hid (((HBEL.out.alloc (by omega) _).alloc (by simp; omega) _).trans (hb2.mono (by simp; omega)))
          clear hb2
          go_wp2_with fail
          go_ret
          exact ⟨ret_bool (by rw [HS.out, H1.out]), HB2.out⟩
      · have H1 := Lib.hid (show sameR (xs.drop k) (ys.drop k) = true by rw [List.drop_eq_nil_of_le (by omega), List.drop_eq_nil_of_le (by omega)]; rfl)
        go_wp2
        go_ret
        exact ⟨ret_bool (by rw [HS.out, H1.out]), hbel⟩
  · have t : ((xs.length : Int) != (ys.length : Int)) = true := by simp; omega
    have H := Lib.hid (sameR_len hl)
    clear hl hA hB
    go_enter Try.func40, Try.ntmps40
    go_wp2
    go_ret
    exact ⟨ret_bool (by rw [H.out]), Below.refl _ _⟩

theorem same_any (xs ys : List Tok) (A A' : Option Addr) (c c' : Nat) (w : World) (hx : xs.length ≤ maxLen) (hy : ys.length ≤ maxLen) (hA : Toks w w.heap.size A xs) (hB : Toks w w.heap.size A' ys) :
    Calls Try.prog 24 #[.slice A xs.length c, .slice A' ys.length c'] w fun e w' => e = .returned (.bool (sameR xs ys)) ∧ Below w.heap.size w w' := by
  have HC := Lib.hid (equalFunc_any xs ys A A' c c' w hx hy hA hB)
  clear hA hB
  go_enter Try.func24, Try.ntmps24
  go_wp2_with fail
  refine HC.out.mono ?_
  rintro e w2 ⟨rfl, hb2⟩
  go_wp2_with fail
  go_ret
  exact ⟨rfl, hb2⟩

set_option maxHeartbeats 2000000 in
theorem refSame_any (xs ys : List Tok) (A A' : Option Addr) (c c' : Nat) (w : World) (hx : xs.length ≤ maxLen) (hy : ys.length ≤ maxLen) (hA : Toks w w.heap.size A xs) (hB : Toks w w.heap.size A' ys) :
    Calls Try.prog 19 #[.slice A xs.length c, .slice A' ys.length c'] w fun e w' => e = .returned (.bool (sameR xs ys)) ∧ Below w.heap.size w w' := by
  unfold maxLen at hx hy
  have hy' : ys.length ≤ 9223372036854775807 := hy
  by_cases hl : xs.length = ys.length
  · have t : ((xs.length : Int) != (ys.length : Int)) = false := by simp; omega
    have HA := Lib.hid hA
    have HB := Lib.hid hB
    have hyl : ys.length ≤ xs.length := by omega
    have hxl : xs.length ≤ ys.length := by omega
    clear hA hB hl
    go_enter Try.func19, Try.ntmps19
    go_wp2
    go_loopw [5] (fun i wr => ∃ k q : Nat, k ≤ xs.length ∧ i = .int .i64 k ∧ wr = w.drewN q ∧ sameR xs ys = sameR (xs.drop k) (ys.drop k)) (fun i _ => xs.length - (intOf i).toNat)
    case atStart => exact ⟨0, 0, Nat.zero_le _, rfl, rfl, rfl⟩
    case round =>
      obtain ⟨k, q, hk, rfl, rfl, hs⟩ := hrel
      have HS := Lib.hid hs
      clear hs
      by_cases hlt : k < xs.length
      · have hlt' : k < ys.length := by omega
        obtain ⟨b, off, rfl, hb, c0, c1, c2⟩ := HA.out.at_ hlt
        obtain ⟨b', off', rfl, hb', d0, d1, d2⟩ := HB.out.at_ hlt'
        have hk0 : (0 : Int) ≤ (k : Int) := by omega
        have hk1 : (k : Int) < (xs.length : Int) := by omega
        have hk1' : (k : Int) < (ys.length : Int) := by omega
        have hk2 : ((k : Int)).toNat = k := by omega
        have ht := text_beq xs[k].text ys[k].text
        cases hkd : (xs[k].kind == ys[k].kind) with
        | false =>
          have t1 : (xs[k].kind != ys[k].kind) = true := by simp [bne, hkd]
          have H1 := Lib.hid (sameR_false hlt hlt' (show eqT xs[k] ys[k] = false by unfold eqT; rw [hkd]; rfl))
          clear ht hkd
          go_wp2_with fail
          go_quiet (fail)
          go_wp2_with fail
          go_ret
          exact ⟨ret_bool (by rw [HS.out, H1.out]), below_draws (below_draws (Below.refl _ _) _) _⟩
        | true =>
          have t1 : (xs[k].kind != ys[k].kind) = false := by simp [bne, hkd]
          cases hx' : (xs[k].text == ys[k].text) with
          | false =>
            have H1 := Lib.hid (sameR_false hlt hlt' (show eqT xs[k] ys[k] = false by unfold eqT; rw [hx']; simp))
            clear hkd ht
            go_wp2_with fail
            go_quiet (fail)
            go_wp2_with fail
            go_ret
            exact ⟨ret_bool (by rw [HS.out, H1.out]), below_draws (below_draws (Below.refl _ _) _) _⟩
          | true =>
            have H1 := Lib.hid (sameR_true hlt hlt' (show eqT xs[k] ys[k] = true by unfold eqT; rw [hx', hkd]; rfl))
            clear hkd ht
            go_wp2_with fail
            go_quiet (fail)
            go_wp2_with fail
            go_roundw
            case rel => exact ⟨k + 1, _, by omega, by go_num, rfl, by rw [HS.out, H1.out]⟩
            case measure => simp [intOf]; omega
      · have H1 := Lib.hid (show sameR (xs.drop k) (ys.drop k) = true by rw [List.drop_eq_nil_of_le (by omega), List.drop_eq_nil_of_le (by omega)]; rfl)
        go_wp2
        go_ret
        exact ⟨ret_bool (by rw [HS.out, H1.out]), below_draws (Below.refl _ _) _⟩
  · have t : ((xs.length : Int) != (ys.length : Int)) = true := by simp; omega
    have H := Lib.hid (sameR_len hl)
    clear hl hA hB
    go_enter Try.func19, Try.ntmps19
    go_wp2
    go_ret
    exact ⟨ret_bool (by rw [H.out]), Below.refl _ _⟩

end Go.Proofs.Ytgaiknigdgoaeaa
