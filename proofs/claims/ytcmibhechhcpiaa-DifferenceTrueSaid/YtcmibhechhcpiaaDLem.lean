/-
  Difference: what the laws look at.
  Difference: the reduction implies all tests; opposite tests; solutions in tests.
-/
import Derived.Test.YtcmibhechhcpiaaDOpen
namespace Go.Proofs.Ytcmibhechhcpiaa
open Go.RowKit

theorem good_64 {n : Int} {x : Tst} (hn : n ≤ 12) (h : Good n x) : T64 x := by
  obtain ⟨h1, h2, h3⟩ := h
  unfold T64
  omega
theorem refE_zero {n : Int} {xs : List Tst} (h : refE n xs = 0) : Unso n xs := by
  unfold refE at h
  by_cases h1 : validS n xs = 0
  · rw [if_neg (fun h => h h1)] at h
    by_cases h2 : OkB n.toNat (arcsL xs)
    · rw [if_pos h2] at h; omega
    · exact ⟨h1, h2⟩
  · rw [if_pos h1] at h
    exact absurd h h1
theorem refIs_64 {n : Int} {xs : List Tst} {R : List (Int × Int)} (h : RefIs n xs R) : ∀ u ∈ R, I64 u.1 ∧ I64 u.2 := by
  intro u hu
  by_cases hn : Unso n xs
  · obtain ⟨r, h1, rfl, _⟩ := h.1 hn
    obtain ⟨_, hl, _⟩ := validS_zero.1 hn.1
    obtain ⟨⟨_, i, hc, _⟩, _⟩ := h1
    simp only [usesOf, List.mem_map] at hu
    obtain ⟨a, ha, rfl⟩ := hu
    obtain ⟨j, hj, hm⟩ := arcsF_mem (chain_mem hc a ha)
    obtain ⟨h2, h3⟩ := arcsAt_t hm
    dsimp only
    rw [h2]
    omega
  · rw [h.2 hn] at hu
    simp at hu
theorem refIs_check {n : Int} {xs : List Tst} {R : List (Int × Int)} (h : RefIs n xs R) (he : refE n xs = 0) : checkS n xs R = true := by
  have hu := refE_zero he
  obtain ⟨r, h1, rfl, h3⟩ := h.1 hu
  have hl : (usesOf r).length = r.length := usesOf_len r
  have hp : 1 ≤ r.length := by
    rcases Nat.lt_or_ge 0 r.length with h4 | h4
    · exact h4
    · exact absurd (List.eq_nil_of_length_eq_zero (by omega)) h1.1.1
  unfold checkS
  rw [decide_eq_true hu.1, hl, decide_eq_true hp, decide_eq_true (show r.length ≤ 40 by omega), (chk_iff (sorted_arcs xs xs.length) _).2 ⟨r, rfl, h1.1⟩]
  rfl
theorem check_sol {n : Int} {xs : List Tst} {r : List (Int × Int)} (h : checkS n xs r = true) : solE n xs = 10 := by
  unfold checkS at h
  simp only [Bool.and_eq_true, decide_eq_true_eq] at h
  obtain ⟨h1, _, _, h2⟩ := h
  obtain ⟨cs, _, h3⟩ := (chk_iff (sorted_arcs xs xs.length) _).1 h2
  obtain ⟨⟨_, hn⟩, _, hg⟩ := validS_zero.1 h1
  have := not_ok_of_neg (arcs_in hg) (by omega) (arcs_small hg) h3
  unfold solE
  rw [if_neg (fun h => h h1), if_neg this]
theorem either_E {n : Int} {xs : List Tst} (h : validS n xs = 0) : (solE n xs = 0 ∧ refE n xs = 10) ∨ (solE n xs = 10 ∧ refE n xs = 0) := by
  have h1 : ¬ validS n xs ≠ 0 := fun k => k h
  unfold solE refE
  simp only [if_neg h1]
  by_cases h2 : OkB n.toNat (arcsL xs)
  · simp [h2]
  · simp [h2]

theorem agg_of {cs : Array Value} {l : List Value} (h : (Value.agg cs).cells.toList = l) : cs = l.toArray := by
  have h2 : (Value.agg cs).cells = cs := rfl
  rw [h2] at h
  rw [← h]
set_option maxRecDepth 100000 in
theorem okWide_array {w : World} {r : Reach} {base : Nat} {t e : TypeId} {n : Nat} {v : Value} (ht : Try.prog.underlying t = some (.array n e)) (h : Value.okWide Try.prog w r base t v) : ∃ cs, v = .agg cs ∧ cs.size = Try.prog.cellsOf t := by
  simp only [Value.okWide, ht] at h
  obtain ⟨cs, h1, h2, _⟩ := h
  exact ⟨cs, h1, h2⟩

end Go.Proofs.Ytcmibhechhcpiaa

namespace Go.Proofs.Ytcmibhechhcpiaa
open Go.RowKit

theorem arcs_prefix {out more : List Tst} {a : Arc} (h : a ∈ arcsL out) : a ∈ arcsL (out ++ more) := by
  obtain ⟨i, hi, h1⟩ := arcsF_mem h
  refine arcsF_of (i := i) (by simp; omega) ?_
  rw [List.getD_eq_getElem?_getD, List.getElem?_append_left hi, ← List.getD_eq_getElem?_getD]
  exact h1
theorem arcsAt_same {i j : Nat} {x : Tst} {a : Arc} (h : a ∈ arcsAt i x) : ∃ b, b ∈ arcsAt j x ∧ b.f = a.f ∧ b.g = a.g ∧ b.c = a.c := by
  unfold arcsAt at h ⊢
  rcases List.mem_cons.1 h with rfl | h
  · exact ⟨_, List.mem_cons_self, rfl, rfl, rfl⟩
  · split at h
    · next hk =>
      simp only [List.mem_singleton] at h
      subst h
      exact ⟨⟨j, -1, (x.rv + 1).toNat, (x.lv + 1).toNat, -(x.ra - x.la)⟩, by rw [if_pos hk]; simp, rfl, rfl, rfl⟩
    · simp at h
/-- a test holds at all solutions of a list that has it -/
theorem impl_mem {xs : List Tst} {x : Tst} (h : x ∈ xs) : Impl (arcsL xs) (arcsL [x]) := by
  intro v hv a ha
  obtain ⟨i, hi, h1⟩ := arcsF_mem ha
  have hi0 : i = 0 := by simp at hi; exact hi
  subst hi0
  have h1 : a ∈ arcsAt 0 x := h1
  obtain ⟨j, hj, rfl⟩ := List.getElem_of_mem h
  obtain ⟨b, hb, e1, e2, e3⟩ := arcsAt_same (j := j) h1
  have hm : b ∈ arcsL xs := arcsF_of hj (by rw [List.getD_eq_getElem?_getD, List.getElem?_eq_getElem hj]; exact hb)
  have := hv b hm
  rw [e1, e2, e3] at this
  exact this
theorem impl_trans {a b c : List Arc} (h : Impl a b) (k : Impl b c) : Impl a c := fun v hv => k v (h v hv)
theorem impl_prefix {out more : List Tst} : Impl (arcsL (out ++ more)) (arcsL out) := fun _ hv a ha => hv a (arcs_prefix ha)
theorem redTo_all : ∀ {r out res : List Tst}, RedTo r out res → (∃ more, res = out ++ more) ∧ ∀ x ∈ r, Impl (arcsL res) (arcsL [x]) := by
  intro r
  induction r with
  | nil => intro out res h; exact ⟨⟨[], by rw [show res = out from h]; simp⟩, fun x hx => by simp at hx⟩
  | cons y r ih =>
    intro out res h
    rcases h with ⟨h1, h⟩ | ⟨_, h⟩
    · obtain ⟨⟨more, e⟩, h2⟩ := ih h
      refine ⟨⟨more, e⟩, fun x hx => ?_⟩
      rcases List.mem_cons.1 hx with rfl | hx
      · rw [e]; exact impl_trans impl_prefix h1
      · exact h2 x hx
    · obtain ⟨⟨more, e⟩, h2⟩ := ih h
      refine ⟨⟨y :: more, by rw [e]; simp⟩, fun x hx => ?_⟩
      rcases List.mem_cons.1 hx with rfl | hx
      · exact impl_mem (by rw [e]; simp)
      · exact h2 x hx
/-- what remains implies each test -/
theorem red_impl {n : Int} {xs R : List Tst} (h : RedIs n xs R) (hv : validS n xs = 0) {x : Tst} (hx : x ∈ xs) {b : Bool} (hb : ImpIs n R x b) : b = true ∧ impE n R x = 0 := by
  obtain ⟨h1, h2, h3⟩ := validS_zero.1 hv
  have hr := h.1 hv
  have hg : ∀ y ∈ R, Good n y := fun y hy => by
    rcases redTo_sub hr y hy with h4 | h4
    · simp at h4
    · exact h3 y h4
  have hvr : validS n R = 0 := validS_zero.2 ⟨h1, Nat.le_trans (redIs_len h) h2, hg⟩
  have ho : oneS n x = 0 := one_zero.2 (h3 x hx)
  refine ⟨(hb.1 ⟨hvr, ho⟩).2 ((redTo_all hr).2 x hx), ?_⟩
  unfold impE
  rw [if_neg (fun k => k hvr), ho]
theorem red_64 {n : Int} {xs R : List Tst} (h : RedIs n xs R) (h64 : ∀ x ∈ xs, T64 x) : ∀ x ∈ R, T64 x := by
  intro x hx
  by_cases hv : validS n xs = 0
  · rcases redTo_sub (h.1 hv) x hx with h4 | h4
    · simp at h4
    · exact h64 x h4
  · rw [h.2 hv] at hx
    simp at hx

end Go.Proofs.Ytcmibhechhcpiaa
