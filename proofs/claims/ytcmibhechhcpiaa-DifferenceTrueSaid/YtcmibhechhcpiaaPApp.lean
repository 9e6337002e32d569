/-
  Difference, the program: append of one use inside a round; the state of the search use by use.
-/
import Derived.Test.YtcmibhechhcpiaaPIter
import Derived.Test.YtcmibhechhcpiaaPIdx
import Derived.Test.YtcmibhechhcpiaaPLinks
import Derived.Test.YtcmibhechhcpiaaDRefute
import Derived.RegionIn
namespace Go.Proofs.Ytcmibhechhcpiaa
open Go.RowKit Go.Shelf

attribute [local go_sem] Oper.semAt_some

/-- an append at a step of a region, held together -/
def AppP (F : Fence) (n : Nat) (d : Option Tmp) (s x : Operand) (t ty : TypeId) (pos : String) (af : Array Edge) (a : Act) (w : World) (K : Act → World → Prop) (Q : Exit → Act → World → Prop) : Prop :=
  Oper.wpIn F n Try.prog { dst := d, op := .call { callee := .builtin .append, args := #[s, x], argTypes := #[t, t] }, type := ty, pos := pos, after := af, guard := none } a w K Q
theorem appP_eq (F : Fence) (n : Nat) (d : Option Tmp) (s x : Operand) (t ty : TypeId) (pos : String) (af : Array Edge) (a : Act) (w : World) (K : Act → World → Prop) (Q : Exit → Act → World → Prop) :
    Oper.wpIn F n Try.prog { dst := d, op := .call { callee := .builtin .append, args := #[s, x], argTypes := #[t, t] }, type := ty, pos := pos, after := af, guard := none } a w K Q = AppP F n d s x t ty pos af a w K Q := rfl
theorem inAt_zero {F : Fence} {n : Nat} {P : Program} {o : Oper} {l : List Oper} {h : 0 < (o :: l).toArray.size} {a : Act} {w : World} {K : Act → World → Prop} {Q : Exit → Act → World → Prop} : Oper.wpIn F n P ((o :: l).toArray[0]'h) a w K Q = Oper.wpIn F n P o a w K Q := rfl
theorem inAt_succ {F : Fence} {n : Nat} {P : Program} {o : Oper} {l : List Oper} {k : Nat} {h : k + 1 < (o :: l).toArray.size} {a : Act} {w : World} {K : Act → World → Prop} {Q : Exit → Act → World → Prop} : Oper.wpIn F n P ((o :: l).toArray[k + 1]'h) a w K Q = Oper.wpIn F n P (l.toArray[k]'(by simpa using h)) a w K Q := rfl

theorem appP_use {F : Fence} {n : Nat} {d : Option Tmp} {s x : Operand} {ty : TypeId} {pos : String} {af : Array Edge} {a : Act} {w : World} {K : Act → World → Prop} {Q : Exit → Act → World → Prop}
    (base : Nat) (v : Value) (xs : List (Int × Int)) (hs : a.eval s = v) (hown : OwnU w base v xs) (g c : Nat) (m : Int × Int) (hx : a.eval x = .slice (some ⟨g, 0, none⟩) 1 c)
    (hc : w.heap[g]? = some (.cells #[.int .i64 m.1, .int .i64 m.2] 46 (0, 0))) (hl : xs.length ≤ 1000000) (hbase : base ≤ w.heap.size)
    (hK : ∀ v' w', OwnU w' base v' (xs ++ [m]) → w.grownBy w' v.ownBlock → Below base w w' → K (a.put d v') w') : AppP F n d s x 39 ty pos af a w K Q := by
  obtain ⟨i0, hi, hz0, hz1, hz2⟩ := info_parts infoUse
  have hb : (xs.length + 1) * 16 ≤ 1000001 * 16 := Nat.mul_le_mul (by omega) (Nat.le_refl _)
  obtain ⟨v', w', hrun, r1, r2, _⟩ := run_append_own (P := Try.prog) w base 39 ty 46 i0 _ 2 16 Try.underlying39 hi hz0 hz1 hz2 rfl (by decide) v xs.length (cellsE EUse xs) hown ⟨g, 0, none⟩ 1 c (EUse.enc m) rfl (news_of (E := EUse) hc rfl) (EUse.one m) (by unfold maxLen; omega) (by omega) hbase
  have hk := hK v' w' (by
    unfold OwnU OwnE
    rw [cellsE_snoc, List.length_append]
    exact r1) r2 ((Below.refl base w).grown r2 hbase (fun k hk => (hown.lt k hk).1))
  unfold AppP Oper.wpIn
  refine ⟨?_, ?_⟩
  · simp [Oper.about, resolve, Target.leads, Sem.run_pure]
  · rw [Oper.semAt_plain F _ _ (by intro c hc'; cases hc')]
    simp [execOp, resolve, invoke, builtin, hs, hx, hrun, Result.andThen]
    exact hk

/-! the search use by use -/
def CInv (l : List Arc) (a : Arc) (K k : Nat) (p : Nat) (q : Int) (outs : List Arc) : Prop :=
  a :: greedy l K a.g a.f a.c = outs ++ greedy l (K - k) p a.f q ∧ (∃ r, Compl l (K - k) p a.f q r) ∧ (-(2000001 * ((k : Int) + 1)) ≤ q ∧ q ≤ 2000001 * ((k : Int) + 1)) ∧ outs.length = k + 1
theorem cinv_start {l : List Arc} {a : Arc} {K : Nat} (h : ∃ r, Compl l K a.g a.f a.c r) (hc : -2000001 ≤ a.c ∧ a.c ≤ 2000001) : CInv l a K 0 a.g a.c [a] :=
  ⟨rfl, by rw [Nat.sub_zero]; exact h, by omega, rfl⟩
theorem cinv_step {l : List Arc} {a : Arc} {K k p : Nat} {q : Int} {outs : List Arc} (hs : Small l) (ho : Sorted l) (hK : K ≤ 100) (hk : k < K) (h : CInv l a K k p q outs) :
    ∃ b, l.find? (pick l (K - 1 - k) p a.f q) = some b ∧ CInv l a K (k + 1) b.g (q + b.c) (outs ++ [b]) := by
  obtain ⟨h1, h2, h3, h4⟩ := h
  have e : K - k = (K - 1 - k) + 1 := by omega
  rw [e] at h1 h2
  have e2 : K - (k + 1) = K - 1 - k := by omega
  unfold CInv
  rw [e2]
  generalize K - 1 - k = m at h1 h2 e
  obtain ⟨g1, _⟩ := greedy_spec hs ho (m + 1) p a.f q (by omega) h2
  rw [greedy] at h1 g1
  cases hf : l.find? (pick l m p a.f q) with
  | none =>
    rw [hf] at g1
    have := g1.2.1
    simp at this
  | some b =>
    rw [hf] at h1 g1
    obtain ⟨c1, c2, c3⟩ := g1
    have hb := hs b (List.mem_of_find?_eq_some hf)
    exact ⟨b, rfl, by rw [h1, List.append_assoc]; rfl, ⟨_, c1.2.2, by simpa using c2, by simp only [wt] at c3; omega⟩, by omega, by simp [h4]⟩
theorem cinv_end {l : List Arc} {a : Arc} {K p : Nat} {q : Int} {outs : List Arc} (h : CInv l a K K p q outs) : outs = a :: greedy l K a.g a.f a.c := by
  obtain ⟨h1, _⟩ := h
  rw [Nat.sub_self, greedy, List.append_nil] at h1
  exact h1.symm

end Go.Proofs.Ytcmibhechhcpiaa
