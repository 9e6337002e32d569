/-
  Difference: a test and its opposite.
-/
import Derived.Test.YtcmibhechhcpiaaDSat
import Derived.Test.YtcmibhechhcpiaaStep
namespace Go.Proofs.Ytcmibhechhcpiaa
open Go.RowKit

def oppT (x : Tst) : Tst := ⟨1, x.rv, x.ra + 1, x.lv, x.la⟩
def leT (x : Tst) : Tst := ⟨1, x.lv, x.la, x.rv, x.ra⟩
theorem le_good {n : Int} {x : Tst} (h : Good n x) : Good n (leT x) := by
  obtain ⟨_, h2, h3⟩ := h
  exact ⟨.inl rfl, h2, h3⟩
theorem opp_good {n : Int} {x : Tst} (h : Good n x) (hr : x.ra ≤ 100) : Good n (oppT x) := by
  obtain ⟨_, h2, h3⟩ := h
  refine ⟨.inl rfl, ?_, h2⟩
  show -1 ≤ x.rv ∧ x.rv < n ∧ -1000000 ≤ x.ra + 1 ∧ x.ra + 1 ≤ 1000000
  omega
theorem arcs_snoc (xs : List Tst) (y : Tst) : arcsL (xs ++ [y]) = arcsL xs ++ arcsAt xs.length y := by
  have h : ∀ k, k ≤ xs.length → arcsF (xs ++ [y]) k = arcsF xs k := by
    intro k
    induction k with
    | zero => intro _; rfl
    | succ k ih =>
      intro hk
      simp only [arcsF]
      rw [ih (by omega), List.getD_eq_getElem?_getD, List.getElem?_append_left (by omega), ← List.getD_eq_getElem?_getD]
  unfold arcsL
  rw [List.length_append, List.length_singleton]
  simp only [arcsF]
  rw [h _ (Nat.le_refl _)]
  congr 2
  rw [List.getD_eq_getElem?_getD, List.getElem?_append_right (Nat.le_refl _), Nat.sub_self]
  rfl
theorem opp_sol {n : Int} {xs : List Tst} {x : Tst} {b : Bool} (hv : validS n xs = 0) (hl : xs.length ≤ 30) (hg : Good n x) (hr : x.ra ≤ 100) (hb : ImpIs n xs (leT x) b) :
    impE n xs (leT x) = 0 ∧ (b = decide (solE n (xs ++ [oppT x]) = 10)) := by
  obtain ⟨⟨h1, h2⟩, _, h3⟩ := validS_zero.1 hv
  have ho : oneS n (leT x) = 0 := one_zero.2 (le_good hg)
  have hg2 : ∀ y ∈ xs ++ [oppT x], Good n y := by
    intro y hy
    rw [List.mem_append] at hy
    rcases hy with hy | hy
    · exact h3 y hy
    · simp at hy; rw [hy]; exact opp_good hg hr
  have hv2 : validS n (xs ++ [oppT x]) = 0 := validS_zero.2 ⟨⟨h1, h2⟩, by simp; omega, hg2⟩
  refine ⟨by unfold impE; rw [if_neg (fun k => k hv), ho], ?_⟩
  have hiff := hb.1 ⟨hv, ho⟩
  have hs := solvable_iff (arcs_in hg2) (by omega) (arcs_small hg2)
  have hE : solE n (xs ++ [oppT x]) = 10 ↔ ¬ ∃ v, Pot (arcsL (xs ++ [oppT x])) v := by
    rw [hs]
    unfold solE
    rw [if_neg (fun k => k hv2)]
    by_cases h : OkB n.toNat (arcsL (xs ++ [oppT x]))
    · rw [if_pos h]; exact ⟨fun k => by omega, fun k => absurd h k⟩
    · rw [if_neg h]; exact ⟨fun _ => h, fun _ => rfl⟩
  rw [Bool.eq_iff_iff, hiff, decide_eq_true_iff, hE]
  constructor
  · rintro hi ⟨v, hp⟩
    rw [arcs_snoc] at hp
    have h4 := hi v (fun a ha => hp a (List.mem_append_left _ ha)) ⟨0, 1, (x.lv + 1).toNat, (x.rv + 1).toNat, x.ra - x.la⟩ (by simp [arcsL, arcsF, arcsAt, leT])
    have h5 := hp ⟨xs.length, 1, (x.rv + 1).toNat, (x.lv + 1).toNat, x.la - (x.ra + 1)⟩ (List.mem_append_right _ (by simp [arcsAt, oppT]))
    dsimp only at h4 h5
    omega
  · intro hn v hp a ha
    have ha : a = ⟨0, 1, (x.lv + 1).toNat, (x.rv + 1).toNat, x.ra - x.la⟩ := by simpa [arcsL, arcsF, arcsAt, leT] using ha
    rcases Int.lt_or_le (a.c + v a.g) (v a.f) with h | h
    · exfalso
      apply hn
      refine ⟨v, fun e he => ?_⟩
      rw [arcs_snoc, List.mem_append] at he
      rcases he with he | he
      · exact hp e he
      · have he : e = ⟨xs.length, 1, (x.rv + 1).toNat, (x.lv + 1).toNat, x.la - (x.ra + 1)⟩ := by simpa [arcsAt, oppT] using he
        subst he ha
        dsimp only at h ⊢
        omega
    · exact h

theorem below_alloc {w u : World} (h : Below w.heap.size w u) (o : Obj) : Below w.heap.size w (u.alloc o) := h.alloc h.size o
theorem step_append_tst {w : World} {ops : Array Oper} {o : Oper} {a : Act} {K : Act → World → Prop} {Q : Exit → Act → World → Prop} {X : Prop} (hgd : o.guard = none) (s x : Operand)
    (ho : o.op = .call { callee := .builtin .append, args := #[s, x], argTypes := #[22, 22] })
    (base : Nat) (v : Value) (xs : List Tst) (hs : a.eval s = v) (hown : OwnT w base v xs) (g c : Nat) (m : Tst) (hx : a.eval x = .slice (some ⟨g, 0, none⟩) 1 c)
    (hc : w.heap[g]? = some (.cells #[.int .i64 m.k, .int .i64 m.lv, .int .i64 m.la, .int .i64 m.rv, .int .i64 m.ra] 32 (0, 0))) (hl : xs.length ≤ 1000000) (hbase : base ≤ w.heap.size)
    (hK : ∀ v' w', OwnT w' base v' (xs ++ [m]) → w.grownBy w' v.ownBlock → Below base w w' → K (a.put o.dst v') w') : if Region.wanted o (yielded ops a.tmps) = true then Oper.wp Try.prog o a w K Q else X :=
  step_append_E (E := ETst) hgd s x 22 32 ho Try.underlying22 infoTst rfl (by decide) (by decide) base v xs hs hown ⟨g, 0, none⟩ c m hx (news_of (E := ETst) hc rfl) hl hbase hK
/-- a copy, and whose memory it is -/
theorem cloneT_own (xs : List Tst) (A : Option Addr) (B c : Nat) (w : World) (hl : xs.length ≤ 1000000) (hT : Tsts w B A xs) :
    Calls Try.prog 14 #[.slice A xs.length c] w fun e w' => ∃ A' c', e = .returned (.slice A' xs.length c') ∧ OwnT w' w.heap.size (.slice A' xs.length c') xs ∧ Below w.heap.size w w' := by
  have fin : ∀ e w', (∃ v, e = Ending.returned v ∧ OwnT w' w.heap.size v xs ∧ Below w.heap.size w w') → ∃ A' c', e = .returned (.slice A' xs.length c') ∧ OwnT w' w.heap.size (.slice A' xs.length c') xs ∧ Below w.heap.size w w' := by
    rintro e w' ⟨v, rfl, h, hb⟩
    obtain ⟨A', c', rfl⟩ := h.slice
    exact ⟨A', c', rfl, h, hb⟩
  rcases hT with rfl | ⟨b, off, rfl, _, h⟩
  · rcases A with _ | ad
    · refine (cloneT_nil 0 c w).mono ?_
      rintro e w' ⟨rfl, rfl⟩
      exact ⟨none, 0, rfl, OwnE.nil _ _ _, Below.refl _ _⟩
    · exact (cloneT_some [] ad c w (by simp) (by intro j u hj; simp [cellsE] at hj)).mono fin
  · refine (cloneT_some xs ⟨b, off, none⟩ c w hl (fun j u hu => ?_)).mono fin
    rw [addr_plain]
    exact reads_cells (by decide) h j u hu

end Go.Proofs.Ytcmibhechhcpiaa
