/-
  The contract of the program's Tokens: it returns the tokens of a text.
-/
import Derived.Test.YtgpcaofikmdpjaaText
import Derived.Deep.LoopGhost
namespace Go.Proofs.Ytgpcaofikmdpjaa
open Go.RowKit

/-- a token's cells -/
def tcells (t : Tok) : List Value := [.int .i64 t.kind, .string ⟨t.text.toArray⟩, .int .i64 t.line]
def cellsOf (ts : List Tok) : List Value := ts.flatMap tcells
theorem cellsOf_length (ts : List Tok) : (cellsOf ts).length = ts.length * 3 := by
  induction ts with
  | nil => rfl
  | cons t r ih =>
    have : cellsOf (t :: r) = tcells t ++ cellsOf r := rfl
    rw [this, List.length_append, ih, List.length_cons]
    simp [tcells]; omega
theorem cellsOf_snoc (ts : List Tok) (t : Tok) : cellsOf (ts ++ [t]) = cellsOf ts ++ tcells t := by simp [cellsOf]

/-- run, behind the skip -/
def runH (f : Nat) (acc : List Tok) (r : List UInt8) (ln : Nat) : List Tok × Nat × Nat :=
  match r with
  | [] => (acc, 0, 0)
  | c :: r =>
    match scanS (c :: r) with
    | (k, n, e) =>
      if e = 0 then
        if acc.length = 4000 then ([], ln, 3)
        else run f (acc ++ [⟨k, textS k n (c :: r), ln⟩]) ((c :: r).drop n) ln
      else ([], ln, e)

theorem run_succ (f : Nat) (acc : List Tok) (l : List UInt8) (ln : Nat) : run (f + 1) acc l ln = runH f acc (skipS false l ln).1 (skipS false l ln).2 := by
  simp only [run, runH]
  rcases skipS false l ln with ⟨r, n⟩
  cases r <;> rfl
theorem runH_nil (f : Nat) (acc : List Tok) (ln : Nat) : runH f acc [] ln = (acc, 0, 0) := rfl
theorem runH_err {f : Nat} {acc : List Tok} {c : UInt8} {r : List UInt8} {ln k n e : Nat} (h : scanS (c :: r) = (k, n, e)) (he : e ≠ 0) : runH f acc (c :: r) ln = ([], ln, e) := by
  simp [runH, h, he]
theorem runH_full {f : Nat} {acc : List Tok} {c : UInt8} {r : List UInt8} {ln k n : Nat} (h : scanS (c :: r) = (k, n, 0)) (ha : acc.length = 4000) : runH f acc (c :: r) ln = ([], ln, 3) := by
  simp [runH, h, ha]
theorem runH_more {f : Nat} {acc : List Tok} {c : UInt8} {r : List UInt8} {ln k n : Nat} (h : scanS (c :: r) = (k, n, 0)) (ha : acc.length ≠ 4000) :
    runH f acc (c :: r) ln = run f (acc ++ [⟨k, textS k n (c :: r), ln⟩]) ((c :: r).drop n) ln := by
  simp [runH, h, ha]

theorem runH_more' {f : Nat} {acc : List Tok} {l : List UInt8} {ln k n : Nat} (h : scanS l = (k, n, 0)) (ha : acc.length ≠ 4000) :
    runH f acc l ln = run f (acc ++ [⟨k, textS k n l, ln⟩]) (l.drop n) ln := by
  cases l with
  | nil => simp [scanS] at h
  | cons c r => exact runH_more h ha

theorem infoTok : (Try.prog.info? 96).map (fun i => (i.zero, i.size, i.bytes)) = some (some (.agg #[.int .i64 0, .string ⟨#[]⟩, .int .i64 0]), 3, 32) := by kernel_rfl

/-- what Tokens leaves -/
def TokRes (w w' : World) (R : List Tok × Nat × Nat) (e : Ending) : Prop :=
  ∃ v, e = .returned (.tuple #[v, .int .i64 R.2.1, .int .i64 R.2.2]) ∧ w'.ownsRow w.heap.size 96 3 v R.1.length (cellsOf R.1) ∧ Below w.heap.size w w'

theorem tok_err {w w' : World} {ln e : Nat} {a b : Int} (ha : a = ln) (hb : b = e) (h : Below w.heap.size w w') : TokRes w w' ([], ln, e) (.returned (.tuple #[.slice none 0 0, .int .i64 a, .int .i64 b])) := by
  subst ha hb
  exact ⟨_, rfl, World.ownsRow_nil w' _ _ _, h⟩

theorem slice_of {w : World} {base : Nat} {e : TypeId} {size : Nat} {v : Value} {n : Nat} {xs : List Value} (h : w.ownsRow base e size v n xs) : ∃ ao cap, v = .slice ao n cap := by
  rcases h.2 with ⟨hv, h0⟩ | ⟨g, cap, cur, hv, _⟩
  · exact ⟨none, 0, by rw [hv, h0]⟩
  · exact ⟨_, _, hv⟩

theorem scan_str3 {l : List UInt8} {k n : Nat} (h : scanS l = (k, n, 0)) (hk : k = 3) : 2 ≤ n := by
  subst hk
  cases l with
  | nil => simp [scanS] at h
  | cons c r =>
    simp only [scanS] at h
    split at h
    · unfold runS at h; split at h <;> simp at h
    · split at h
      · unfold runS at h; split at h <;> simp at h
      · split at h
        · obtain ⟨_, _, _, _, h2, _⟩ := strS_kind h; exact h2
        · unfold signS at h
          split at h
          · simp at h
          · split at h <;> simp at h

end Go.Proofs.Ytgpcaofikmdpjaa
