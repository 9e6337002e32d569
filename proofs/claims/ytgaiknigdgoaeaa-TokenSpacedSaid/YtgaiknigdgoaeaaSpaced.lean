/-
  Plain: tokens with white space and comments between them.
-/
import Derived.Test.YtgaiknigdgoaeaaLaws
namespace Go.Proofs.Ytgaiknigdgoaeaa

def gapL : Nat → List UInt8
  | 0 => [32]
  | 1 => [10]
  | 2 => [9, 32, 13, 10]
  | 3 => [32, 35, 32, 45, 62, 32, 34, 32, 123, 10]
  | _ => [35, 10, 10]
def gapAt (zs : List Int) (i : Nat) : List UInt8 := match zs[i]? with
  | some z => gapL (z.toNat % 5)
  | none => [32]

theorem gapL_gap (k : Nat) : Gap (gapL k) := by
  intro x ln
  match k with
  | 0 => simp [gapL, nl, skipS, isBlk]
  | 1 => simp [gapL, nl, skipS]
  | 2 => simp [gapL, nl, skipS, isBlk]
  | 3 => simp [gapL, nl, skipS, isBlk]
  | k + 4 => simp [gapL, nl, skipS]
theorem gapL_len (k : Nat) : (gapL k).length ≤ 10 ∧ nl (gapL k) ≤ 2 := by
  match k with
  | 0 => decide
  | 1 => decide
  | 2 => decide
  | 3 => decide
  | k + 4 => exact (show ([35, 10, 10] : List UInt8).length ≤ 10 ∧ nl [35, 10, 10] ≤ 2 by decide)
theorem gapL_sep (k : Nat) (x : List UInt8) : Parted (gapL k ++ x) := by
  intro c hc
  match k, hc with
  | 0, hc => simp [gapL] at hc; subst hc; rfl
  | 1, hc => simp [gapL] at hc; subst hc; rfl
  | 2, hc => simp [gapL] at hc; subst hc; rfl
  | 3, hc => simp [gapL] at hc; subst hc; rfl
  | k + 4, hc => simp [gapL] at hc; subst hc; rfl

theorem gapAt_L (zs : List Int) (i : Nat) : ∃ k, gapAt zs i = gapL k := by
  unfold gapAt
  split
  · exact ⟨_, rfl⟩
  · exact ⟨0, rfl⟩

def its (zs : List Int) : Nat → List Tok → List Item
  | _, [] => []
  | i, t :: r => ⟨gapAt zs i, t.kind, t.text⟩ :: its zs (i + 1) r

theorem its_snoc (zs : List Int) (l : List Tok) (t : Tok) : ∀ i, its zs i (l ++ [t]) = its zs i l ++ [⟨gapAt zs (i + l.length), t.kind, t.text⟩] := by
  induction l with
  | nil => intro i; rfl
  | cons a r ih =>
    intro i
    simp only [List.cons_append, its, ih, List.length_cons]
    rw [show i + 1 + r.length = i + (r.length + 1) by omega]
theorem its_length (zs : List Int) (l : List Tok) : ∀ i, (its zs i l).length = l.length := by
  induction l with
  | nil => intro i; rfl
  | cons a r ih => intro i; simp [its, ih]

theorem cat_append (a b : List Item) : cat (a ++ b) = cat a ++ cat b := by
  induction a with
  | nil => rfl
  | cons x r ih => simp [cat, ih]

def nls (a : List Item) : Nat := (a.map fun it => nl it.gap).sum
theorem nls_snoc (a : List Item) (it : Item) : nls (a ++ [it]) = nls a + nl it.gap := by simp [nls]
theorem lab_snoc (a : List Item) (it : Item) : ∀ ln, lab ln (a ++ [it]) = lab ln a ++ [⟨it.kind, it.text, (ln + nls a + nl it.gap : Nat)⟩] := by
  induction a with
  | nil => intro ln; simp [lab, nls]
  | cons x r ih =>
    intro ln
    simp only [List.cons_append, lab, ih]
    have : nls (x :: r) = nl x.gap + nls r := by simp [nls]
    rw [this, show ln + nl x.gap + nls r = ln + (nl x.gap + nls r) by omega]
theorem lab_length (a : List Item) : ∀ ln, (lab ln a).length = a.length := by
  induction a with
  | nil => intro ln; rfl
  | cons x r ih => intro ln; simp [lab, ih]

theorem its_ok (zs : List Int) (l : List Tok) : ∀ i, allRight l = true → okItems (its zs i l) := by
  induction l with
  | nil => intro i _; trivial
  | cons t r ih =>
    intro i h
    simp only [allRight, List.all_cons, Bool.and_eq_true] at h
    obtain ⟨k, hk⟩ := gapAt_L zs i
    refine ⟨by rw [show (⟨gapAt zs i, t.kind, t.text⟩ : Item).gap = gapL k from hk]; exact gapL_gap k, h.1, ?_, ih _ h.2⟩
    cases r with
    | nil => intro c hc; simp [its, cat] at hc
    | cons a r' =>
      obtain ⟨k2, hk2⟩ := gapAt_L zs (i + 1)
      have : cat (its zs (i + 1) (a :: r')) = gapL k2 ++ (quoteS a.kind a.text ++ cat (its zs (i + 1 + 1) r')) := by simp [its, cat, hk2]
      rw [this]
      exact gapL_sep k2 _

theorem quote_len2 (k : Int) (t : List UInt8) : (quoteS k t).length ≤ t.length + 2 := by unfold quoteS; split <;> simp

theorem its_cat_len (zs : List Int) (l : List Tok) : ∀ i, (cat (its zs i l)).length ≤ 12 * l.length + (l.map fun t => t.text.length).sum := by
  induction l with
  | nil => intro i; simp [its, cat]
  | cons t r ih =>
    intro i
    obtain ⟨k, hk⟩ := gapAt_L zs i
    have h1 := (gapL_len k).1
    have h2 := quote_len2 t.kind t.text
    have h3 := ih (i + 1)
    have : cat (its zs i (t :: r)) = gapL k ++ (quoteS t.kind t.text ++ cat (its zs (i + 1) r)) := by simp [its, cat, hk]
    rw [this]
    simp only [List.length_append, List.map_cons, List.sum_cons, List.length_cons]
    omega

theorem its_nls (zs : List Int) (l : List Tok) : ∀ i, nls (its zs i l) ≤ 2 * l.length := by
  induction l with
  | nil => intro i; simp [its, nls]
  | cons t r ih =>
    intro i
    obtain ⟨k, hk⟩ := gapAt_L zs i
    have h1 := (gapL_len k).2
    have h3 := ih (i + 1)
    have : nls (its zs i (t :: r)) = nl (gapL k) + nls (its zs (i + 1) r) := by simp [its, nls, hk]
    rw [this]
    simp only [List.length_cons]
    omega

/-- P1.2: white space and comments between tokens change nothing but lines -/
theorem toks_spaced (zs : List Int) (l : List Tok) (h : allRight l = true) (h3 : l.length ≤ 300) (h4 : (l.map fun t => t.text.length).sum ≤ 3000) :
    toksS (cat (its zs 0 l)) = (lab 1 (its zs 0 l), 0, 0) := by
  have h5 := its_cat_len zs l 0
  unfold toksS
  rw [if_neg (by omega), run_cat (its zs 0 l) _ [] 1 (by omega) (its_ok zs l 0 h) (by simp [its_length]; omega)]
  rfl

theorem nl_count (l : List UInt8) : l.count 10 = nl l := by
  unfold nl List.count
  refine List.countP_congr ?_
  intro c _
  constructor
  · intro h; simp at h; subst h; rfl
  · intro h
    have : c = 10 := UInt8.toNat_inj.1 (by simpa using h)
    subst this; rfl

end Go.Proofs.Ytgaiknigdgoaeaa
