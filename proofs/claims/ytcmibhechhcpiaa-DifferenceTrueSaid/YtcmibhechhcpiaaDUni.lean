/-
  Difference: the contracts in one form, for the program's functions and the reference's.
-/
import Derived.Test.YtcmibhechhcpiaaDFew
import Derived.Test.YtcmibhechhcpiaaDHold
import Derived.Test.YtcmibhechhcpiaaDSolve
namespace Go.Proofs.Ytcmibhechhcpiaa
open Go.RowKit

instance (n : Nat) (l : List Arc) : Decidable (OkB n l) := inferInstanceAs (Decidable (∀ i, i ≤ n → 0 ≤ dst n l i i))
abbrev I64 (x : Int) : Prop := -9223372036854775808 ≤ x ∧ x ≤ 9223372036854775807
def T64 (x : Tst) : Prop := I64 x.k ∧ I64 x.lv ∧ I64 x.la ∧ I64 x.rv ∧ I64 x.ra

/-- right tests that have a solution -/
def Solv (n : Int) (xs : List Tst) : Prop := validS n xs = 0 ∧ OkB n.toNat (arcsL xs)
def Unso (n : Int) (xs : List Tst) : Prop := validS n xs = 0 ∧ ¬ OkB n.toNat (arcsL xs)
instance (n : Int) (xs : List Tst) : Decidable (Solv n xs) := inferInstanceAs (Decidable (_ ∧ _))
instance (n : Int) (xs : List Tst) : Decidable (Unso n xs) := inferInstanceAs (Decidable (_ ∧ _))
def solE (n : Int) (xs : List Tst) : Nat := if validS n xs ≠ 0 then validS n xs else if OkB n.toNat (arcsL xs) then 0 else 10
def solR (n : Int) (xs : List Tst) : List Int := if Solv n xs then solS n.toNat (arcsL xs) else []
def refE (n : Int) (xs : List Tst) : Nat := if validS n xs ≠ 0 then validS n xs else if OkB n.toNat (arcsL xs) then 10 else 0
def RefIs (n : Int) (xs : List Tst) (R : List (Int × Int)) : Prop := (Unso n xs → ∃ r, IsStd (arcsL xs) r ∧ R = usesOf r ∧ r.length ≤ 13) ∧ (¬ Unso n xs → R = [])
def impE (n : Int) (xs : List Tst) (x : Tst) : Nat := if validS n xs ≠ 0 then validS n xs else oneS n x
def ImpIs (n : Int) (xs : List Tst) (x : Tst) (b : Bool) : Prop := (validS n xs = 0 ∧ oneS n x = 0 → (b = true ↔ Impl (arcsL xs) (arcsL [x]))) ∧ (¬ (validS n xs = 0 ∧ oneS n x = 0) → b = false)
def RedIs (n : Int) (xs : List Tst) (R : List Tst) : Prop := (validS n xs = 0 → RedTo xs [] R) ∧ (validS n xs ≠ 0 → R = [])

theorem refIs_unique {n : Int} {xs : List Tst} {R S : List (Int × Int)} (h : RefIs n xs R) (k : RefIs n xs S) : R = S := by
  by_cases hu : Unso n xs
  · obtain ⟨r, h1, rfl, _⟩ := h.1 hu
    obtain ⟨s, h2, rfl, _⟩ := k.1 hu
    rw [std_unique (sorted_arcs xs xs.length) h1 h2]
  · rw [h.2 hu, k.2 hu]
theorem refIs_len {n : Int} {xs : List Tst} {R : List (Int × Int)} (h : RefIs n xs R) : R.length ≤ 13 := by
  by_cases hu : Unso n xs
  · obtain ⟨r, _, rfl, h2⟩ := h.1 hu
    rw [usesOf_len]; exact h2
  · rw [h.2 hu]; simp
theorem impIs_unique {n : Int} {xs : List Tst} {x : Tst} {b c : Bool} (h : ImpIs n xs x b) (k : ImpIs n xs x c) : b = c := by
  by_cases hu : validS n xs = 0 ∧ oneS n x = 0
  · exact Bool.eq_iff_iff.2 ((h.1 hu).trans (k.1 hu).symm)
  · rw [h.2 hu, k.2 hu]
theorem redIs_unique {n : Int} {xs : List Tst} {R S : List Tst} (h : RedIs n xs R) (k : RedIs n xs S) : R = S := by
  by_cases hu : validS n xs = 0
  · exact redTo_unique (h.1 hu) (k.1 hu)
  · rw [h.2 hu, k.2 hu]
theorem redTo_sub : ∀ {r out res : List Tst}, RedTo r out res → ∀ x ∈ res, x ∈ out ∨ x ∈ r := by
  intro r
  induction r with
  | nil => intro out res h x hx; rw [show res = out from h] at hx; exact .inl hx
  | cons y r ih =>
    intro out res h x hx
    rcases h with ⟨_, h⟩ | ⟨_, h⟩
    · rcases ih h x hx with h2 | h2
      · exact .inl h2
      · exact .inr (by simp [h2])
    · rcases ih h x hx with h2 | h2
      · rw [List.mem_append] at h2
        rcases h2 with h2 | h2
        · exact .inl h2
        · simp at h2; exact .inr (by simp [h2])
      · exact .inr (by simp [h2])
theorem redTo_len : ∀ {r out res : List Tst}, RedTo r out res → res.length ≤ out.length + r.length := by
  intro r
  induction r with
  | nil => intro out res h; rw [show res = out from h]; simp
  | cons y r ih =>
    intro out res h
    rcases h with ⟨_, h⟩ | ⟨_, h⟩
    · have := ih h; simp only [List.length_cons]; omega
    · have := ih h; simp only [List.length_append, List.length_cons, List.length_nil] at this ⊢; omega
theorem redIs_len {n : Int} {xs R : List Tst} (h : RedIs n xs R) : R.length ≤ xs.length := by
  by_cases hu : validS n xs = 0
  · simpa using redTo_len (h.1 hu)
  · rw [h.2 hu]; simp

def ValC (f : FuncId) : Prop := ∀ (n : Int) (xs : List Tst) (A : Option Addr) (c : Nat) (w : World), I64 n → (∀ x ∈ xs, T64 x) → xs.length ≤ 1000 → Tsts w w.heap.size A xs →
  Calls Try.prog f #[.int .i64 n, .slice A xs.length c] w fun e w' => e = .returned (.int .i64 (validS n xs)) ∧ Below w.heap.size w w'
def SolC (f : FuncId) : Prop := ∀ (n : Int) (xs : List Tst) (A : Option Addr) (c : Nat) (w : World), I64 n → (∀ x ∈ xs, T64 x) → xs.length ≤ 1000 → Tsts w w.heap.size A xs →
  Calls Try.prog f #[.int .i64 n, .slice A xs.length c] w fun e w' => ∃ A' c', e = .returned (.tuple #[.slice A' (solR n xs).length c', .int .i64 (solE n xs)]) ∧ Ints w' w'.heap.size A' (solR n xs) ∧ Below w.heap.size w w'
def RefC (f : FuncId) : Prop := ∀ (n : Int) (xs : List Tst) (A : Option Addr) (c : Nat) (w : World), I64 n → (∀ x ∈ xs, T64 x) → xs.length ≤ 1000 → Tsts w w.heap.size A xs →
  Calls Try.prog f #[.int .i64 n, .slice A xs.length c] w fun e w' => ∃ R A' c', RefIs n xs R ∧ e = .returned (.tuple #[.slice A' R.length c', .int .i64 (refE n xs)]) ∧ Uses w' w'.heap.size A' R ∧ Below w.heap.size w w'
def ChkC (f : FuncId) : Prop := ∀ (n : Int) (xs : List Tst) (A : Option Addr) (c : Nat) (r : List (Int × Int)) (A2 : Option Addr) (c2 : Nat) (w : World), I64 n → (∀ x ∈ xs, T64 x) → (∀ u ∈ r, I64 u.1 ∧ I64 u.2) → xs.length ≤ 1000 → r.length ≤ 1000 → Tsts w w.heap.size A xs → Uses w w.heap.size A2 r →
  Calls Try.prog f #[.int .i64 n, .slice A xs.length c, .slice A2 r.length c2] w fun e w' => e = .returned (.bool (checkS n xs r)) ∧ Below w.heap.size w w'
def HolC (f : FuncId) : Prop := ∀ (x : Tst) (vs : List Int) (A : Option Addr) (c : Nat) (w : World), T64 x → Fit x.la → Fit x.ra → (∀ y ∈ vs, Fit y) → vs.length ≤ 1000 → Ints w w.heap.size A vs →
  Calls Try.prog f #[tval x, .slice A vs.length c] w fun e w' => e = .returned (.bool (holdsS x vs)) ∧ Below w.heap.size w w'
def ImpC (f : FuncId) : Prop := ∀ (n : Int) (xs : List Tst) (A : Option Addr) (c : Nat) (x : Tst) (w : World), I64 n → (∀ x ∈ xs, T64 x) → T64 x → xs.length ≤ 1000 → Tsts w w.heap.size A xs →
  Calls Try.prog f #[.int .i64 n, .slice A xs.length c, tval x] w fun e w' => ∃ b, ImpIs n xs x b ∧ e = .returned (.tuple #[.bool b, .int .i64 (impE n xs x)]) ∧ Below w.heap.size w w'
def RedC (f : FuncId) : Prop := ∀ (n : Int) (xs : List Tst) (A : Option Addr) (c : Nat) (w : World), I64 n → (∀ x ∈ xs, T64 x) → xs.length ≤ 1000 → Tsts w w.heap.size A xs →
  Calls Try.prog f #[.int .i64 n, .slice A xs.length c] w fun e w' => ∃ R A' c', RedIs n xs R ∧ e = .returned (.tuple #[.slice A' R.length c', .int .i64 (validS n xs)]) ∧ Tsts w' w'.heap.size A' R ∧ Below w.heap.size w w'

theorem valR : ValC 17 := fun n xs A c w _ _ hl hT => valid_any n xs A c w (by unfold maxLen; omega) hT
theorem solRf : SolC 15 := by
  intro n xs A c w _ _ hl hT
  refine (solve_any n xs A c w (by unfold maxLen; omega) hT).mono ?_
  rintro e w' ⟨hb, ⟨h1, rfl⟩ | ⟨h1, h2, rfl⟩ | ⟨h1, h2, v, rfl, h3⟩⟩
  · have e1 : solR n xs = [] := by unfold solR; rw [if_neg (fun h => h1 h.1)]
    have e2 : solE n xs = validS n xs := by unfold solE; rw [if_pos h1]
    rw [e1, e2]
    exact ⟨none, 0, rfl, .inl rfl, hb⟩
  · have e1 : solR n xs = [] := by unfold solR; rw [if_neg (fun h => h2 h.2)]
    have e2 : solE n xs = 10 := by unfold solE; rw [if_neg (fun h => h h1), if_neg h2]
    rw [e1, e2]
    exact ⟨none, 0, rfl, .inl rfl, hb⟩
  · have e1 : solR n xs = solS n.toNat (arcsL xs) := by unfold solR; rw [if_pos ⟨h1, h2⟩]
    have e2 : solE n xs = 0 := by unfold solE; rw [if_neg (fun h => h h1), if_pos h2]
    obtain ⟨A', c', rfl, hR⟩ := OwnE.reads h3
    rw [e1, e2]
    exact ⟨A', c', rfl, hR, hb⟩
theorem refRf : RefC 23 := by
  intro n xs A c w _ _ hl hT
  refine (refute_any n xs A c w (by unfold maxLen; omega) hT).mono ?_
  rintro e w' ⟨hb, ⟨h1, rfl⟩ | ⟨h1, h2, rfl⟩ | ⟨h1, h2, v, r, rfl, h3, h4, h5⟩⟩
  · have e2 : refE n xs = validS n xs := by unfold refE; rw [if_pos h1]
    rw [e2]
    exact ⟨[], none, 0, ⟨fun h => absurd h.1 h1, fun _ => rfl⟩, rfl, .inl rfl, hb⟩
  · have e2 : refE n xs = 10 := by unfold refE; rw [if_neg (fun h => h h1), if_pos h2]
    rw [e2]
    exact ⟨[], none, 0, ⟨fun h => absurd h2 h.2, fun _ => rfl⟩, rfl, .inl rfl, hb⟩
  · have e2 : refE n xs = 0 := by unfold refE; rw [if_neg (fun h => h h1), if_neg h2]
    obtain ⟨A', c', rfl, hR⟩ := OwnE.reads h3
    rw [e2]
    exact ⟨usesOf r, A', c', ⟨fun _ => ⟨r, h4, rfl, h5⟩, fun h => absurd ⟨h1, h2⟩ h⟩, rfl, hR, hb⟩
theorem chkRf : ChkC 27 := by
  intro n xs A c r A2 c2 w _ _ _ hl hr hT hR
  refine (check_any n xs A c r A2 c2 w (by unfold maxLen; omega) (by unfold maxLen; omega) hT hR).mono ?_
  rintro e w' ⟨hb, rfl⟩
  exact ⟨rfl, hb⟩
theorem holRf : HolC 31 := fun x vs A c w _ h1 h2 h3 _ hT => holds_any x vs A c w h1 h2 h3 hT
theorem impRf : ImpC 33 := by
  intro n xs A c x w _ _ _ hl hT
  refine (implies_any n xs A c x w (by unfold maxLen; omega) hT).mono ?_
  rintro e w' ⟨hb, ⟨h1, rfl⟩ | ⟨h1, h2, rfl⟩ | ⟨h1, h2, b, rfl, h3⟩⟩
  · have e2 : impE n xs x = validS n xs := by unfold impE; rw [if_pos h1]
    rw [e2]
    exact ⟨false, ⟨fun h => absurd h.1 h1, fun _ => rfl⟩, rfl, hb⟩
  · have e2 : impE n xs x = oneS n x := by unfold impE; rw [if_neg (fun h => h h1)]
    rw [e2]
    exact ⟨false, ⟨fun h => absurd h.2 h2, fun _ => rfl⟩, rfl, hb⟩
  · have e2 : impE n xs x = 0 := by unfold impE; rw [if_neg (fun h => h h1), h2]
    rw [e2]
    exact ⟨b, ⟨fun _ => h3, fun h => absurd ⟨h1, h2⟩ h⟩, rfl, hb⟩
theorem redRf : RedC 35 := by
  intro n xs A c w _ _ hl hT
  refine (reduce_any n xs A c w (by unfold maxLen; omega) hT).mono ?_
  rintro e w' ⟨hb, ⟨h1, rfl⟩ | ⟨h1, v, res, rfl, h3, h4⟩⟩
  · exact ⟨[], none, 0, ⟨fun h => absurd h h1, fun _ => rfl⟩, rfl, .inl rfl, hb⟩
  · obtain ⟨A', c', rfl, hR⟩ := OwnE.reads h3
    rw [h1]
    exact ⟨res, A', c', ⟨fun _ => h4, fun h => absurd h1 h⟩, rfl, hR, hb⟩

end Go.Proofs.Ytcmibhechhcpiaa
