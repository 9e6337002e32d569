/-
  Plain: the text of many tokens, a row of some in each line.
-/
import Derived.Test.YtgaiknigdgoaeaaLaws
namespace Go.Proofs.Ytgaiknigdgoaeaa

def tokb (i : Nat) : UInt8 := if i % 2 = 0 then 97 else 59
def feed (wd i : Nat) : List UInt8 := if 0 < i ∧ i % wd = 0 then [10] else []
def pfx (wd : Nat) : Nat → List UInt8
  | 0 => []
  | i + 1 => pfx wd i ++ (feed wd i ++ [tokb i])
def sfx (wd : Nat) : Nat → Nat → List UInt8
  | 0, _ => []
  | r + 1, i => feed wd i ++ (tokb i :: sfx wd r (i + 1))

theorem pfx_sfx (wd r : Nat) : ∀ i, pfx wd i ++ sfx wd r i = pfx wd (i + r) := by
  induction r with
  | zero => intro i; simp [sfx]
  | succ r ih =>
    intro i
    have := ih (i + 1)
    rw [show i + (r + 1) = i + 1 + r by omega, ← this]
    simp [sfx, pfx]
theorem sfx_zero (wd r : Nat) : sfx wd r 0 = pfx wd r := by
  have := pfx_sfx wd r 0
  simpa [pfx] using this

theorem feed_len (wd i : Nat) : (feed wd i).length ≤ 1 := by unfold feed; split <;> simp
theorem pfx_len (wd i : Nat) : (pfx wd i).length ≤ 2 * i := by
  induction i with
  | zero => simp [pfx]
  | succ i ih =>
    have := feed_len wd i
    simp only [pfx, List.length_append, List.length_cons, List.length_nil]
    omega

theorem sfx_head (wd r i : Nat) (h : i % 2 = 1) : ∀ c, (sfx wd r i).head? = some c → isNam c = false := by
  intro c hc
  cases r with
  | zero => simp [sfx] at hc
  | succ r =>
    unfold sfx feed at hc
    split at hc
    · simp at hc; subst hc; rfl
    · simp [tokb, h] at hc; subst hc; rfl

theorem scan_tokb (wd r i : Nat) : scanS (tokb i :: sfx wd r (i + 1)) = (if i % 2 = 0 then 1 else 4, 1, 0) := by
  by_cases h : i % 2 = 0
  · have hp : pre isNam (sfx wd r (i + 1)) = 0 := by
      have hh := sfx_head wd r (i + 1) (by omega)
      cases hs : sfx wd r (i + 1) with
      | nil => rfl
      | cons c x =>
        have := hh c (by rw [hs]; rfl)
        simp [pre, this]
    have ht : tokb i = 97 := by simp [tokb, h]
    rw [ht, if_pos h]
    simp only [scanS, show isLet 97 = true from rfl, if_true, runS, pre, show isNam 97 = true from rfl, hp]
    simp
  · have ht : tokb i = 59 := by simp [tokb, h]
    rw [ht, if_neg h]
    simp only [scanS, show isLet 59 = false from rfl, show isDig 59 = false from rfl]
    have h2 : two (59 :: sfx wd r (i + 1)) = false := by simp [two]
    simp only [signS, h2]
    rfl

theorem skip_feedtok (wd r i ln : Nat) (hw : 0 < wd) (hl : ln = 1 + (i - 1) / wd) : skipS false (sfx wd (r + 1) i) ln = (tokb i :: sfx wd r (i + 1), 1 + i / wd) := by
  have hsc := scan_tokb wd r i
  by_cases h : 0 < i ∧ i % wd = 0
  · have hf : sfx wd (r + 1) i = 10 :: (tokb i :: sfx wd r (i + 1)) := by simp [sfx, feed, h]
    have hdv : i / wd = (i - 1) / wd + 1 := by
      obtain ⟨h1, h2⟩ := h
      obtain ⟨q, rfl⟩ := Nat.dvd_of_mod_eq_zero h2
      have hq : 0 < q := by
        rcases Nat.eq_zero_or_pos q with e | e
        · rw [e] at h1; simp at h1
        · exact e
      obtain ⟨p, rfl⟩ : ∃ p, q = p + 1 := ⟨q - 1, by omega⟩
      rw [Nat.mul_div_cancel_left _ hw]
      have e : wd * (p + 1) - 1 = wd * p + (wd - 1) := by rw [Nat.mul_succ]; omega
      rw [e, Nat.mul_add_div hw, Nat.div_eq_of_lt (by omega)]
    rw [hf]
    rw [show skipS false (10 :: (tokb i :: sfx wd r (i + 1))) ln = skipS false (tokb i :: sfx wd r (i + 1)) (ln + 1) from by simp [skipS]]
    rw [skip_at hsc, hl, hdv]
    rfl
  · have hf : sfx wd (r + 1) i = tokb i :: sfx wd r (i + 1) := by simp [sfx, feed, h]
    have hdv : i / wd = (i - 1) / wd := by
      rcases Nat.eq_zero_or_pos i with e | e
      · rw [e]
      · have hm : i % wd ≠ 0 := fun hm => h ⟨e, hm⟩
        have h1 := Nat.div_add_mod i wd
        have h3 := Nat.mod_lt i hw
        have e2 : i - 1 = wd * (i / wd) + (i % wd - 1) := by omega
        rw [e2, Nat.mul_add_div hw, Nat.div_eq_of_lt (show i % wd - 1 < wd by omega)]
        rfl
    rw [hf, skip_at hsc, hl, hdv]

theorem run_many (wd : Nat) (hw : 0 < wd) (r : Nat) : ∀ (f : Nat) (acc : List Tok) (i ln : Nat), (sfx wd r i).length < f → acc.length = i → i ≤ 4000 → ln = 1 + (i - 1) / wd →
    (i + r ≤ 4000 → ∃ ts, run f acc (sfx wd r i) ln = (ts, 0, 0) ∧ ts.length = i + r) ∧ (4000 < i + r → run f acc (sfx wd r i) ln = ([], 1 + 4000 / wd, 3)) := by
  induction r with
  | zero =>
    intro f acc i ln hf ha hi hl
    obtain ⟨f, rfl⟩ : ∃ g, f = g + 1 := ⟨f - 1, by omega⟩
    exact ⟨fun _ => ⟨acc, by simp [sfx, run, skipS], by omega⟩, fun h => by omega⟩
  | succ r ih =>
    intro f acc i ln hf ha hi hl
    obtain ⟨f, rfl⟩ : ∃ g, f = g + 1 := ⟨f - 1, by omega⟩
    have hsk := skip_feedtok wd r i ln hw hl
    have hsc := scan_tokb wd r i
    have hlen : (sfx wd r (i + 1)).length < f := by
      have : (sfx wd (r + 1) i).length = (feed wd i).length + ((sfx wd r (i + 1)).length + 1) := by simp [sfx]
      omega
    by_cases h4 : i = 4000
    · have hrun : run (f + 1) acc (sfx wd (r + 1) i) ln = ([], 1 + 4000 / wd, 3) := by
        simp only [run, hsk, hsc]
        rw [if_pos trivial, if_pos (by omega), h4]
      exact ⟨fun h => by omega, fun _ => hrun⟩
    · obtain ⟨t, ht⟩ : ∃ t : Tok, run (f + 1) acc (sfx wd (r + 1) i) ln = run f (acc ++ [t]) (sfx wd r (i + 1)) (1 + i / wd) := by
        refine ⟨⟨((if i % 2 = 0 then 1 else 4 : Nat) : Int), textS (if i % 2 = 0 then 1 else 4) 1 (tokb i :: sfx wd r (i + 1)), (1 + i / wd : Nat)⟩, ?_⟩
        simp only [run, hsk, hsc]
        rw [if_pos trivial, if_neg (by omega)]
        rfl
      obtain ⟨h1, h2⟩ := ih f (acc ++ [t]) (i + 1) (1 + i / wd) hlen (by simp [ha]) (by omega) (by simp)
      rw [ht]
      refine ⟨fun h => ?_, fun h => h2 (by omega)⟩
      obtain ⟨ts, e1, e2⟩ := h1 (by omega)
      exact ⟨ts, e1, by omega⟩

theorem toks_many (wd c : Nat) (hw : 0 < wd) (hc : c ≤ 5000) :
    (c ≤ 4000 → ∃ ts, toksS (pfx wd c) = (ts, 0, 0) ∧ ts.length = c) ∧ (4000 < c → toksS (pfx wd c) = ([], 1 + 4000 / wd, 3)) := by
  have hlen := pfx_len wd c
  have := run_many wd hw c ((pfx wd c).length + 1) [] 0 1 (by rw [sfx_zero]; omega) rfl (by omega) (by simp)
  rw [sfx_zero] at this
  unfold toksS
  rw [if_neg (by omega)]
  simpa using this

end Go.Proofs.Ytgaiknigdgoaeaa
