/-
  append of a whole slice (nil or not) to a row of the call's own.
-/
import Derived.Test.YtiafmhdicgmfaaaBase
import Derived.Deep.AppendLies
namespace Go.Proofs.Ytiafmhdicgmfaaa
open Go.RowKit

theorem run_append_empty {P : Program} {w : World} (base : Nat) (t ty e : TypeId) (i : TypeInfo) (size c : Nat) (ht : P.underlying t = some (.slice e)) (hi : P.info? e = some i) (v : Value) (n : Nat) (xs : List Value) (hown : w.ownsRow base e size v n xs) :
    (Builtin.append_ #[t, t] ty #[v, .slice none 0 c]).run P w = .ok v w := by
  rcases hown.2 with ⟨rfl, rfl⟩ | ⟨g, cap, cur, rfl, _, _, hnc, _⟩
  · simp [Builtin.append_, run_underlying ht, sizeOf, typeInfo, hi, Builtin.lenOf, Builtin.firstCells]
  · simp [Builtin.append_, run_underlying ht, sizeOf, typeInfo, hi, Builtin.lenOf, Builtin.firstCells, hnc, storeCells]

section
variable {α : Type} {E : El α}
theorem wp_append_many {w : World} {o : Oper} {a : Act} {K : Act → World → Prop} {Q : Exit → Act → World → Prop} (s x : Operand) (T t : TypeId)
    (ho : o.op = .call { callee := .builtin .append, args := #[s, x], argTypes := #[T, T] }) {z : Value} {bytes : Nat}
    (hT : Try.prog.underlying T = some (.slice t)) (hinfo : (Try.prog.info? t).map (fun i => (i.zero, i.size, i.bytes)) = some (some z, E.size, bytes)) (hzc : z.cells.size = E.size) (hpos : 0 < E.size) (hby : bytes ≤ 1000)
    (base : Nat) (v : Value) (xs : List α) (hs : a.eval s = v) (hown : OwnE E t w base v xs) (A : Option Addr) (m c B : Nat) (ys : List α) (hx : a.eval x = .slice A m c) (hm : m = ys.length) (hR : Reads E w B A ys) (hl : xs.length ≤ 100000) (hl2 : m ≤ 100000) (hbase : base ≤ w.heap.size)
    (hK : ∀ v' w', OwnE E t w' base v' (xs ++ ys) → w.grownBy w' v.ownBlock → Below base w w' → (v' = .slice none 0 0 ↔ v = .slice none 0 0 ∧ m = 0) → K (a.put o.dst v') w') : o.wp Try.prog a w K Q := by
  obtain ⟨i0, hi, hz0, hz1, hz2⟩ := info_parts hinfo
  subst hm
  cases A with
  | none =>
    have e : ys = [] := by
      rcases hR with h | ⟨b, off, h, _⟩
      · exact h
      · cases h
    subst e
    have hr := run_append_empty (P := Try.prog) (w := w) base T o.type t i0 E.size c hT hi v xs.length (cellsE E xs) hown
    unfold Oper.wp execOp
    simp only [List.length_nil] at hx
    simp only [ho, resolve, invoke, builtin, Sem.run_bind, Sem.run_pure, Result.andThen_ok, List.map_toArray, List.map_cons, List.map_nil, hs, hx, hr]
    exact hK v w (by rw [List.append_nil]; exact hown) (grown_refl w _) (Below.refl _ _) (by simp)
  | some ad =>
    have hb : (xs.length + ys.length) * bytes ≤ 200000 * 1000 := Nat.mul_le_mul (by omega) hby
    refine wp_append_own w s x T ho base t i0 z E.size bytes hT hi hz0 hz1 hz2 hzc hpos v xs.length (cellsE E xs) hs hown ad ys.length c (cellsE E ys) hx (cellsE_length E ys) ?_ (cellsE_one E ys) (by unfold maxLen; omega) (by omega) hbase fun v' w' h1 h2 h3 => hK v' w' ?_ h2 ((Below.refl base w).grown h2 hbase (fun k hk => (hown.lt k hk).1)) h3
    · intro j u hj
      rcases hR with h | ⟨b, off, h, _, h3⟩
      · subst h; simp [cellsE] at hj
      · cases h
        obtain ⟨hj1, _⟩ := List.getElem?_eq_some_iff.1 hj
        rw [cellsE_length] at hj1
        have hi2 : j / E.size < ys.length := (Nat.div_lt_iff_lt_mul hpos).2 hj1
        have hq := List.getElem?_eq_getElem hi2
        have hu : (E.enc ys[j / E.size])[j % E.size]? = some u := by
          have hlt : j % E.size < (E.enc ys[j / E.size]).length := by rw [E.len]; exact Nat.mod_lt _ hpos
          have := cellsE_get E hq (List.getElem?_eq_getElem hlt)
          rw [show j / E.size * E.size + j % E.size = j by rw [Nat.mul_comm]; exact Nat.div_add_mod j E.size, hj] at this
          rw [List.getElem?_eq_getElem hlt, this]
        have := h3 _ _ hq _ _ hu
        rw [addr_plain]
        have e : off + j = off + j / E.size * E.size + j % E.size := by rw [Nat.add_assoc, show j / E.size * E.size + j % E.size = j by rw [Nat.mul_comm]; exact Nat.div_add_mod j E.size]
        rw [e]
        exact this
    · unfold OwnE
      rw [List.length_append]
      unfold cellsE at h1 ⊢
      rw [List.flatMap_append]
      exact h1
theorem wpList_append_many {w : World} {ops : Array Oper} {rest : List Oper} {o : Oper} {a : Act} {Q : Exit → Act → World → Prop} (hgd : o.guard = none) (s x : Operand) (T t : TypeId)
    (ho : o.op = .call { callee := .builtin .append, args := #[s, x], argTypes := #[T, T] }) {z : Value} {bytes : Nat}
    (hT : Try.prog.underlying T = some (.slice t)) (hinfo : (Try.prog.info? t).map (fun i => (i.zero, i.size, i.bytes)) = some (some z, E.size, bytes)) (hzc : z.cells.size = E.size) (hpos : 0 < E.size) (hby : bytes ≤ 1000)
    (base : Nat) (v : Value) (xs : List α) (hs : a.eval s = v) (hown : OwnE E t w base v xs) (A : Option Addr) (m c B : Nat) (ys : List α) (hx : a.eval x = .slice A m c) (hm : m = ys.length) (hR : Reads E w B A ys) (hl : xs.length ≤ 100000) (hl2 : m ≤ 100000) (hbase : base ≤ w.heap.size)
    (hK : ∀ v' w', OwnE E t w' base v' (xs ++ ys) → w.grownBy w' v.ownBlock → Below base w w' → (v' = .slice none 0 0 ↔ v = .slice none 0 0 ∧ m = 0) → wpList Try.prog ops Q rest (a.put o.dst v') w') : wpList Try.prog ops Q (o :: rest) a w :=
  wpList_plain hgd fun _ hK2 => wp_append_many s x T t ho hT hinfo hzc hpos hby base v xs hs hown A m c B ys hx hm hR hl hl2 hbase fun v' w' h2 h3 h4 h5 => hK2 _ _ (hK v' w' h2 h3 h4 h5)
theorem step_append_many {w : World} {ops : Array Oper} {o : Oper} {a : Act} {K : Act → World → Prop} {Q : Exit → Act → World → Prop} {X : Prop} (hgd : o.guard = none) (s x : Operand) (T t : TypeId)
    (ho : o.op = .call { callee := .builtin .append, args := #[s, x], argTypes := #[T, T] }) {z : Value} {bytes : Nat}
    (hT : Try.prog.underlying T = some (.slice t)) (hinfo : (Try.prog.info? t).map (fun i => (i.zero, i.size, i.bytes)) = some (some z, E.size, bytes)) (hzc : z.cells.size = E.size) (hpos : 0 < E.size) (hby : bytes ≤ 1000)
    (base : Nat) (v : Value) (xs : List α) (hs : a.eval s = v) (hown : OwnE E t w base v xs) (A : Option Addr) (m c B : Nat) (ys : List α) (hx : a.eval x = .slice A m c) (hm : m = ys.length) (hR : Reads E w B A ys) (hl : xs.length ≤ 100000) (hl2 : m ≤ 100000) (hbase : base ≤ w.heap.size)
    (hK : ∀ v' w', OwnE E t w' base v' (xs ++ ys) → w.grownBy w' v.ownBlock → Below base w w' → (v' = .slice none 0 0 ↔ v = .slice none 0 0 ∧ m = 0) → K (a.put o.dst v') w') : if Region.wanted o (yielded ops a.tmps) = true then Oper.wp Try.prog o a w K Q else X := by
  have hw : Region.wanted o (yielded ops a.tmps) = true := by simp [Region.wanted, hgd]
  rw [if_pos hw]
  exact wp_append_many s x T t ho hT hinfo hzc hpos hby base v xs hs hown A m c B ys hx hm hR hl hl2 hbase hK
/-- an empty literal is a row of the call's own -/
theorem OwnE.empty {t : TypeId} {w : World} {base g : Nat} (h : w.heap[g]? = some (.cells #[] t (0, 0))) (hb : base ≤ g) : OwnE E t w base (.slice (some ⟨g, 0, none⟩) 0 0) [] :=
  ⟨by simp [cellsE], .inr ⟨g, 0, #[], rfl, hb, h, Nat.le_refl _, by simp, by simp, by simp [cellsE]⟩⟩
end

/-- a row lies in another block than one of another type -/
theorem own_far {α : Type} {E : El α} {t t' : TypeId} {w : World} {base B : Nat} {v : Value} {xs : List α} {cs : Array Value} (h : OwnE E t w base v xs) (hb : w.heap[B]? = some (.cells cs t' (0, 0))) (hne : t ≠ t') : v.ownBlock ≠ some B := by
  rcases h.2 with ⟨rfl, _⟩ | ⟨g, cap, cur, rfl, _, hg, _⟩
  · simp [Value.ownBlock]
  · intro he
    have e : g = B := by simpa [Value.ownBlock] using he
    subst e
    rw [hg] at hb
    simp only [Option.some.injEq, Obj.cells.injEq] at hb
    exact hne hb.2.1
/-- a row is another than a block that came later -/
theorem own_later {α : Type} {E : El α} {t : TypeId} {w : World} {base B : Nat} {v : Value} {xs : List α} (h : OwnE E t w base v xs) (hb : w.heap.size ≤ B) : v.ownBlock ≠ some B := fun e => by
  have := (OwnE.lt h B e).2
  omega

end Go.Proofs.Ytiafmhdicgmfaaa
