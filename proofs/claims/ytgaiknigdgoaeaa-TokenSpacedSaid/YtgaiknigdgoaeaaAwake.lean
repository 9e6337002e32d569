/-
  The contract of the law's awake: the chapter's examples hold.
-/
import Derived.Test.YtgaiknigdgoaeaaWrite
namespace Go.Proofs.Ytgaiknigdgoaeaa
open Go.RowKit

theorem cellsOf_get (ts : List Tok) : ∀ (i : Nat) (t : Tok), ts[i]? = some t →
    (cellsOf ts)[i * 3]? = some (.int .i64 t.kind) ∧ (cellsOf ts)[i * 3 + 1]? = some (.string ⟨t.text.toArray⟩) ∧ (cellsOf ts)[i * 3 + 2]? = some (.int .i64 t.line) := by
  induction ts with
  | nil => intro i t h; simp at h
  | cons a r ih =>
    intro i t h
    have hc : cellsOf (a :: r) = .int .i64 a.kind :: .string ⟨a.text.toArray⟩ :: .int .i64 a.line :: cellsOf r := rfl
    cases i with
    | zero => simp at h; subst h; rw [hc]; exact ⟨rfl, rfl, rfl⟩
    | succ j =>
      simp at h
      obtain ⟨h1, h2, h3⟩ := ih j t h
      rw [hc, show (j + 1) * 3 = j * 3 + 1 + 1 + 1 by omega]
      exact ⟨h1, h2, h3⟩

/-- a slice of tokens that a call made -/
theorem toks_of_own {w : World} {base : Nat} {v : Value} {ts : List Tok} (h : w.ownsRow base 29 3 v ts.length (cellsOf ts)) :
    ∃ A c, v = .slice A ts.length c ∧ Toks w w.heap.size A ts := by
  have h0 := h
  rcases h.2 with ⟨hv, hn⟩ | ⟨g, cap, cur, hv, hb, hg, _⟩
  · exact ⟨none, 0, by rw [hv, hn], .inl (List.eq_nil_of_length_eq_zero hn)⟩
  · refine ⟨_, _, hv, .inr ⟨g, 0, rfl, (h0.lt g (by rw [hv]; rfl)).2, fun i t ht => ?_⟩⟩
    have hc := h0.cells (g := g) (by rw [hv]; rfl)
    obtain ⟨h1, h2, h3⟩ := cellsOf_get ts i t ht
    have e : ∀ j, (⟨g, 0, none⟩ : Addr).add j = ⟨g, 0 + j, none⟩ := fun j => Addr.add_lit _ _ _
    have k1 := hc _ _ h1
    have k2 := hc _ _ h2
    have k3 := hc _ _ h3
    rw [e] at k1 k2 k3
    exact ⟨k1, k2, k3⟩

def exText : List UInt8 := [101, 100, 103, 101, 32, 97, 45, 62, 10, 98, 32, 35, 32, 120]
def exToks : List Tok := [⟨1, [101, 100, 103, 101], 1⟩, ⟨1, [97], 1⟩, ⟨4, [45, 62], 1⟩, ⟨1, [98], 2⟩]
theorem ex_toks : toksS exText = (exToks, 0, 0) := by decide +kernel
theorem ex_write : writeS exToks = ([101, 100, 103, 101, 32, 97, 32, 45, 62, 10, 98], 0) := by decide +kernel
theorem ex_num : rightS 2 [48, 48, 55] = true ∧ numS [48, 48, 55] = 7 := by decide +kernel
theorem ex_name : rightS 1 [101, 100, 103, 101] = true := by decide +kernel

theorem ex_call1 (w : World) : Calls Try.prog 12 #[.string ⟨#[101, 100, 103, 101, 32, 97, 45, 62, 10, 98, 32, 35, 32, 120]⟩] w fun e w' =>
    ∃ A c, e = .returned (.tuple #[.slice A 4 c, .int .i64 0, .int .i64 0]) ∧ Toks w' w'.heap.size A exToks ∧ Below w.heap.size w w' := by
  refine (tokens_any ⟨exText.toArray⟩ (by decide) w).mono ?_
  rintro e w' ⟨v, rfl, hown, hb⟩
  rw [show (⟨exText.toArray⟩ : ByteArray).data.toList = exText from rfl, ex_toks] at hown ⊢
  obtain ⟨A, c, rfl, hT⟩ := toks_of_own hown
  exact ⟨A, c, rfl, hT, hb⟩

theorem ex_call2 (A : Option Addr) (c : Nat) (w : World) (h : Toks w w.heap.size A exToks) : Calls Try.prog 16 #[.slice A 4 c] w fun e w' =>
    e = .returned (.tuple #[.string ⟨#[101, 100, 103, 101, 32, 97, 32, 45, 62, 10, 98]⟩, .int .i64 0]) ∧ Below w.heap.size w w' := by
  have := write_any exToks A c w h (by decide) (by decide)
  rw [ex_write] at this
  exact this

theorem ex_call3 (w : World) : Calls Try.prog 22 #[.string ⟨#[48, 48, 55]⟩] w fun e w' => e = .returned (.tuple #[.int .i64 7, .int .i64 0]) ∧ w = w' := by
  have := number_any ⟨#[48, 48, 55]⟩ (by decide) w
  rw [show (⟨#[48, 48, 55]⟩ : ByteArray).data.toList = [48, 48, 55] from rfl, ex_num.1, ex_num.2] at this
  exact this

theorem ex_call4 (w : World) : Calls Try.prog 20 #[.string ⟨#[101, 100, 103, 101]⟩] w fun e w' => e = .returned (.bool true) ∧ w = w' := by
  have := isName_any ⟨#[101, 100, 103, 101]⟩ (by decide) w
  rw [show (⟨#[101, 100, 103, 101]⟩ : ByteArray).data.toList = [101, 100, 103, 101] from rfl, ex_name] at this
  exact this

set_option maxHeartbeats 1000000 in
theorem awake_any (w : World) : Calls Try.prog 11 #[] w fun e w' => e = .returned (.bool true) ∧ Below w.heap.size w w' := by
  go_enter Try.func11, Try.ntmps11
  go_wp2_with fail
  refine (ex_call1 _).mono ?_
  rintro e w1 ⟨A, c, rfl, hT, hb1⟩
  obtain ⟨b, off, rfl, hlt, k0, k1, k2⟩ := hT.at_ (show 3 < exToks.length by decide)
  have HT := Lib.hid hT
  have HB1 := Lib.hid hb1
  clear hT hb1 k0 k1
  go_wp2_with fail
  refine (ex_call2 _ _ _ HT.out).mono ?_
  rintro e w2 ⟨rfl, hb2⟩
  have k2' : w2.cell? ⟨b, off + 11, none⟩ = some (.int .i64 2) := (hb2.cell (p := ⟨b, off + 11, none⟩) hlt).trans k2
  have HB2 := Lib.hid hb2
  clear hb2 k2
  go_wp2_with fail
  refine (ex_call3 _).mono ?_
  rintro e w' ⟨rfl, rfl⟩
  go_wp2_with fail
  refine (ex_call4 _).mono ?_
  rintro e w' ⟨rfl, rfl⟩
  go_wp2_with fail
  go_ret
  exact ⟨rfl, HB1.out.trans (HB2.out.mono HB1.out.size)⟩

end Go.Proofs.Ytgaiknigdgoaeaa
