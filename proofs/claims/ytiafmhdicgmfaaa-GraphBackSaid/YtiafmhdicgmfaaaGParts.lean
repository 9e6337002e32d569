/-
  Parts in memory: what reads as a list of parts, and one that a call made, whose rows lie apart.
-/
import Derived.Test.YtiafmhdicgmfaaaGFr2
import Derived.Test.YtiafmhdicgmfaaaDeep
namespace Go.Proofs.Ytiafmhdicgmfaaa
open Go.RowKit

def DPart : DEl Mo := ⟨2, fun w B x cs => ∃ A1 c1 A2 c2, cs = [.slice A1 x.ns.length c1, .slice A2 x.es.length c2] ∧ Ints w B A1 x.ns ∧ Ints w B A2 x.es,
  fun h => by obtain ⟨A1, c1, A2, c2, rfl, _⟩ := h; rfl, fun h hb => by obtain ⟨A1, c1, A2, c2, e, h1, h2⟩ := h; exact ⟨A1, c1, A2, c2, e, Reads.below h1 hb, Reads.below h2 hb⟩, fun h hb => by obtain ⟨A1, c1, A2, c2, e, h1, h2⟩ := h; exact ⟨A1, c1, A2, c2, e, h1.mono hb, h2.mono hb⟩⟩
abbrev Pts (w : World) (B : Nat) (A : Option Addr) (ps : List Mo) : Prop := DReads DPart w B A ps
def IsP (w : World) (v : Value) (ps : List Mo) : Prop := ∃ A c, v = .slice A ps.length c ∧ Pts w w.heap.size A ps
theorem IsP.up {w w' : World} {v : Value} {ps : List Mo} (h : IsP w v ps) (hb : Below w.heap.size w w') : IsP w' v ps := by
  obtain ⟨A, c, e, h⟩ := h
  exact ⟨A, c, e, h.up hb⟩
theorem isP_nil (w : World) : IsP w (.slice none 0 0) [] := ⟨none, 0, rfl, .inl rfl⟩
theorem infoPart : (Try.prog.info? 60).map (fun i => (i.zero, i.size, i.bytes)) = some (some (.agg #[.slice none 0 0, .slice none 0 0]), 2, 48) := by kernel_rfl

/-- n parts that a call made: the row j is the nodes of the part j/2 or the edges, and no two rows lie in one block -/
def OwnP (w : World) (base : Nat) (v : Value) (n : Nat) (R : Nat → List Int) : Prop :=
  ∃ vs : List Value, w.ownsRow base 60 2 v n vs ∧ (∀ j, j < n * 2 → ∃ u : Value, vs[j]? = some u ∧ OwnI w base u (R j)) ∧
    ∀ (i j : Nat) (ui uj : Value), vs[i]? = some ui → vs[j]? = some uj → i ≠ j → ui.ownBlock = none ∨ ui.ownBlock ≠ uj.ownBlock
theorem OwnP.ext {w : World} {base : Nat} {v : Value} {n : Nat} {R S : Nat → List Int} (h : OwnP w base v n R) (e : ∀ j, j < n * 2 → R j = S j) : OwnP w base v n S := by
  obtain ⟨vs, h1, h2, h3⟩ := h
  exact ⟨vs, h1, fun j hj => by rw [← e j hj]; exact h2 j hj, h3⟩
theorem OwnP.below {w w' : World} {base B : Nat} {v : Value} {n : Nat} {R : Nat → List Int} (h : OwnP w base v n R) (hb : Below B w w') (hB : w.heap.size ≤ B) : OwnP w' base v n R := by
  obtain ⟨vs, h1, h2, h3⟩ := h
  refine ⟨vs, ?_, fun j hj => ?_, h3⟩
  · refine ⟨h1.1, ?_⟩
    rcases h1.2 with hn | ⟨g, cap, cur, hv, hbg, hg, rest⟩
    · exact .inl hn
    · exact .inr ⟨g, cap, cur, hv, hbg, by rw [hb.block g (Nat.lt_of_lt_of_le (Array.getElem?_eq_some_iff.1 hg).1 hB)]; exact hg, rest⟩
  · obtain ⟨u, e1, e2⟩ := h2 j hj
    exact ⟨u, e1, OwnE.below e2 hb hB⟩
theorem OwnP.isP {w : World} {base : Nat} {v : Value} {n : Nat} {R : Nat → List Int} (h : OwnP w base v n R) (ps : List Mo) (hn : n = ps.length) (hR : ∀ i (hi : i < ps.length), R (i * 2) = ps[i].ns ∧ R (i * 2 + 1) = ps[i].es) : IsP w v ps := by
  obtain ⟨vs, h1, h2, _⟩ := h
  subst hn
  have h1c := h1
  rcases h1.2 with ⟨hv, h0⟩ | ⟨g, cap, cur, hv, hbg, hg, _⟩
  · exact ⟨none, 0, by rw [hv, h0], .inl (List.eq_nil_of_length_eq_zero h0)⟩
  · refine ⟨_, cap, hv, .inr ⟨g, 0, rfl, (Array.getElem?_eq_some_iff.1 hg).1, fun i x hx => ?_⟩⟩
    obtain ⟨hi, ex⟩ := List.getElem?_eq_some_iff.1 hx
    obtain ⟨e1, e2⟩ := hR i hi
    rw [ex] at e1 e2
    obtain ⟨u1, v1, o1⟩ := h2 (i * 2) (by omega)
    obtain ⟨u2, v2, o2⟩ := h2 (i * 2 + 1) (by omega)
    rw [e1] at o1
    rw [e2] at o2
    obtain ⟨A1, c1, rfl, r1⟩ := OwnE.reads o1
    obtain ⟨A2, c2, rfl, r2⟩ := OwnE.reads o2
    refine ⟨[.slice A1 x.ns.length c1, .slice A2 x.es.length c2], ⟨A1, c1, A2, c2, rfl, r1, r2⟩, fun j u hu => ?_⟩
    have hc := World.ownsRow.cells h1c (g := g) (by rw [hv]; rfl)
    have key : ∀ q y, vs[q]? = some y → w.cell? ⟨g, 0 + q, none⟩ = some y := fun q y hy => by
      have := hc q y hy
      rwa [addr_plain] at this
    show w.cell? ⟨g, 0 + i * 2 + j, none⟩ = some u
    rw [Nat.add_assoc]
    match j, hu with
    | 0, hu => simp at hu; subst hu; exact key _ _ v1
    | 1, hu => simp at hu; subst hu; exact key _ _ v2
    | j + 2, hu => simp at hu

set_option maxRecDepth 100000 in
/-- append of one int to a row: in its own block or in a new one -/
theorem wpList_append_int_at {w : World} {ops : Array Oper} {rest : List Oper} {o : Oper} {a : Act} {Q : Exit → Act → World → Prop} (hgd : o.guard = none) (s x : Operand)
    (ho : o.op = .call { callee := .builtin .append, args := #[s, x], argTypes := #[22, 22] })
    (base : Nat) (u : Value) (ys : List Int) (hs : a.eval s = u) (hown : OwnI w base u ys) (g c : Nat) (m : Int) (hx : a.eval x = .slice (some ⟨g, 0, none⟩) 1 c)
    (hc : w.cell? ⟨g, 0, none⟩ = some (.int .i64 m)) (hl : ys.length ≤ 1000000) (hbase : base ≤ w.heap.size)
    (hK : ∀ v' w', OwnI w' base v' (ys ++ [m]) → w.grownBy w' u.ownBlock → (v'.ownBlock = u.ownBlock ∨ ∃ h, v'.ownBlock = some h ∧ w.heap.size ≤ h) → wpList Try.prog ops Q rest (a.put o.dst v') w') : wpList Try.prog ops Q (o :: rest) a w := by
  obtain ⟨i0, hi, hz0, hz1, hz2⟩ := info_parts infoInt
  have hn1 : ∀ j u', [Value.int .i64 m][j]? = some u' → w.cell? ((⟨g, 0, none⟩ : Addr).add j) = some u' := by
    intro j u' hj
    cases j with
    | zero =>
      simp at hj; subst hj
      rw [addr_plain]; exact hc
    | succ j => simp at hj
  have hn2 : ∀ u' ∈ [Value.int .i64 m], u'.oneCell' = true := by intro u' hu; simp at hu; subst hu; rfl
  have hsn : cellsE EInt (ys ++ [m]) = cellsE EInt ys ++ [.int .i64 m] := cellsE_snoc EInt ys m
  have hlen : (cellsE EInt ys).length = ys.length := by rw [cellsE_length]; exact Nat.mul_one _
  have fin : ∀ v' w', w'.ownsRow w.heap.size 3 1 v' (ys.length + 1) (cellsE EInt ys ++ [.int .i64 m]) → w.grownBy w' none → wpList Try.prog ops Q rest (a.put o.dst v') w' := by
    intro v' w' h1 h2
    have h3 : OwnI w' w.heap.size v' (ys ++ [m]) := by
      unfold OwnI OwnE
      rw [hsn, List.length_append]
      exact h1
    refine hK v' w' (OwnE.mono h3 hbase) ⟨h2.os, h2.tape, h2.output, h2.size, fun k hk _ => h2.block k hk (by simp)⟩ (.inr ?_)
    obtain ⟨g, cp, rfl, hg, _⟩ := OwnE.pos h3 (by simp)
    exact ⟨g, rfl, hg⟩
  have hown0 := hown
  rcases hown.2 with ⟨e, hn⟩ | ⟨g2, cap, cur, e, hbg, hg, hncap, hcm, hcs, htake⟩
  · have hys : ys = [] := List.eq_nil_of_length_eq_zero hn
    subst hys
    refine wpList_append_grows w hgd s x 22 ho 3 i0 (.int .i64 0) 1 8 Try.underlying22 hi hz0 hz1 hz2 rfl (by decide) none 0 0 [] (by rw [hs, e]) (fun _ => ⟨rfl, rfl⟩) rfl (fun b hb => by cases hb) ⟨g, 0, none⟩ 1 c _ hx rfl hn1 hn2 (by omega) (by unfold maxLen; omega) (by omega) ?_
    intro v' w' h1 h2
    exact fin v' w' h1 h2
  · by_cases hr : ys.length + 1 ≤ cap
    · subst e
      refine wpList_append_fits w hgd s x 22 ho base 3 i0 1 Try.underlying22 hi hz1 g2 ys.length cap (cellsE EInt ys) hs hown0 ⟨g, 0, none⟩ 1 c _ hx rfl hn1 hn2 hr ?_
      intro w' h1 h2
      refine hK _ w' ?_ h2 (.inl rfl)
      unfold OwnI OwnE
      rw [hsn, List.length_append]
      exact h1
    · have hcells : ∀ b, some (⟨g2, 0, none⟩ : Addr) = some b → ∀ j u', (cellsE EInt ys)[j]? = some u' → w.cell? (b.add j) = some u' := by
        intro b hb j u' hu
        injection hb with hb
        subst hb
        exact World.ownsRow.cells hown0 (by rw [e]; rfl) j u' hu
      refine wpList_append_grows w hgd s x 22 ho 3 i0 (.int .i64 0) 1 8 Try.underlying22 hi hz0 hz1 hz2 rfl (by decide) (some ⟨g2, 0, none⟩) ys.length cap (cellsE EInt ys) (by rw [hs, e]) (fun h => by cases h) (by rw [hlen]; omega) hcells ⟨g, 0, none⟩ 1 c _ hx rfl hn1 hn2 (by omega) (by unfold maxLen; omega) (by omega) ?_
      intro v' w' h1 h2
      exact fin v' w' h1 h2

/-- a row of the parts, and where it lies -/
theorem OwnP.at {w : World} {base : Nat} {v : Value} {n : Nat} {R : Nat → List Int} (h : OwnP w base v n R) {j : Nat} (hj : j < n * 2) : ∃ g cap u, v = .slice (some ⟨g, 0, none⟩) n cap ∧ base ≤ g ∧ g < w.heap.size ∧ w.cell? ⟨g, j, none⟩ = some u ∧ OwnI w base u (R j) := by
  obtain ⟨vs, h1, h2, _⟩ := h
  obtain ⟨u, e1, e2⟩ := h2 j hj
  have h1c := h1
  rcases h1.2 with ⟨_, h0⟩ | ⟨g, cap, cur, hv, hbg, hg, _⟩
  · omega
  · refine ⟨g, cap, u, hv, hbg, (Array.getElem?_eq_some_iff.1 hg).1, ?_, e2⟩
    have := World.ownsRow.cells h1c (g := g) (by rw [hv]; rfl) j u e1
    rw [addr_plain, Nat.zero_add] at this
    exact this
theorem OwnP.store {w w1 : World} {o : Obj} {base g n cap c : Nat} {R : Nat → List Int} {u' : Value} {ys : List Int} (h : OwnP w base (.slice (some ⟨g, 0, none⟩) n cap) n R) {u : Value} (hcell : w.cell? ⟨g, c, none⟩ = some u) (hc : c < n * 2)
    (hgr : (w.alloc o).grownBy w1 u.ownBlock) (hu' : OwnI w1 base u' ys) (hb : u'.ownBlock = u.ownBlock ∨ ∃ h, u'.ownBlock = some h ∧ w.heap.size ≤ h) :
    w1.cell? ⟨g, c, none⟩ = some u ∧ w1.frozen? ⟨g, c, none⟩ = false ∧ OwnP (w1.setCell ⟨g, c, none⟩ u') base (.slice (some ⟨g, 0, none⟩) n cap) n (fun j => if j = c then ys else R j) := by
  obtain ⟨vs, h1, h2, h3⟩ := h
  have hlen : vs.length = n * 2 := h1.1
  have hvc : vs[c]? = some u := by rw [World.ownsRow.cellAt h1 c (by omega)] at hcell; exact hcell
  obtain ⟨u0, e0, hu0⟩ := h2 c hc
  rw [hvc] at e0
  injection e0 with e0
  subst e0
  have apart : ∀ {W : World} {x : Value} {zs : List Int} {ws : List Value}, OwnI W base x zs → W.ownsRow base 60 2 (.slice (some ⟨g, 0, none⟩) n cap) n ws → x.ownBlock = none ∨ x.ownBlock ≠ some g := fun {W x zs ws} hx hw => by
    rcases hx.2 with ⟨e, _⟩ | ⟨g1, cap1, cur, e, _, hg, _⟩
    · left; rw [e]; rfl
    · right
      rcases hw.2 with ⟨e', _⟩ | ⟨g', cap', cur', e', _, hg', _⟩
      · cases e'
      · rw [e]
        simp only [Value.slice.injEq, Option.some.injEq, Addr.mk.injEq, and_true] at e'
        obtain ⟨rfl, _⟩ := e'
        simp only [Value.ownBlock]
        intro he
        injection he with he
        rw [he, hg'] at hg
        simp only [Option.some.injEq, Obj.cells.injEq] at hg
        exact absurd hg.2.1 (by decide)
  have hap : u.ownBlock = none ∨ u.ownBlock ≠ some g := apart hu0 h1
  have k1 : w1.ownsRow base 60 2 (.slice (some ⟨g, 0, none⟩) n cap) n vs := by
    refine World.ownsRow.kept (World.ownsRow.alloc h1 o) hgr (.inr ?_)
    rcases hap with e | e
    · rw [e]; simp [Value.ownBlock]
    · exact fun e2 => e (by rw [← e2]; rfl)
  obtain ⟨k2, k3⟩ := World.ownsRow.stored k1 c u'
  have hkeep : ∀ {v xs}, OwnI w1 base v xs → OwnI (w1.setCell ⟨g, c, none⟩ u') base v xs := fun hv => World.ownsRow.kept hv k3 (apart hv k1)
  refine ⟨by rw [World.ownsRow.cellAt k1 c (by omega)]; exact hvc, World.ownsRow.frozenAt k1 c, vs.set c u', k2, ?_, ?_⟩
  · intro i hi
    by_cases e : i = c
    · subst e
      refine ⟨u', by rw [List.getElem?_set, if_pos rfl, if_pos (by omega)], ?_⟩
      simp only [if_true]
      exact hkeep hu'
    · obtain ⟨ui, e1, e2⟩ := h2 i hi
      refine ⟨ui, by rw [List.getElem?_set, if_neg (fun h => e h.symm)]; exact e1, ?_⟩
      show OwnI _ base ui (if i = c then ys else R i)
      rw [if_neg e]
      refine hkeep ?_
      exact World.ownsRow.kept (World.ownsRow.alloc e2 o) hgr (h3 i c ui u e1 hvc e)
  · have lt : ∀ (q : Nat) (uq : Value), vs[q]? = some uq → ∀ k, uq.ownBlock = some k → k < w.heap.size := fun q uq hq k hk => by
      have hql : q < n * 2 := by
        rcases Nat.lt_or_ge q vs.length with h | h
        · omega
        · rw [List.getElem?_eq_none h] at hq; cases hq
      obtain ⟨uq', e3, e4⟩ := h2 q hql
      rw [hq] at e3
      injection e3 with e3
      subst e3
      exact (OwnE.lt e4 k hk).2
    intro i j ui uj hi hj hne
    rw [List.getElem?_set] at hi hj
    by_cases ei : c = i
    · subst ei
      rw [if_neg hne] at hj
      rw [if_pos rfl] at hi
      split at hi
      · injection hi with hi
        subst hi
        rcases hb with hb | ⟨hh, hb, hlt⟩
        · rw [hb]; exact h3 c j u uj hvc hj hne
        · right
          rw [hb]
          intro e2
          have := lt j uj hj hh e2.symm
          omega
      · cases hi
    · rw [if_neg ei] at hi
      by_cases ej : c = j
      · subst ej
        rw [if_pos rfl] at hj
        split at hj
        · injection hj with hj
          subst hj
          rcases hb with hb | ⟨hh, hb, hlt⟩
          · rw [hb]; exact h3 i c ui u hi hvc hne
          · right
            rw [hb]
            intro e2
            have := lt i ui hi hh e2
            omega
        · cases hj
      · rw [if_neg ej] at hj
        exact h3 i j ui uj hi hj hne

set_option maxRecDepth 100000 in
theorem wpList_make_P {w : World} {ops : Array Oper} {rest : List Oper} {o : Oper} {a : Act} {Q : Exit → Act → World → Prop} (hgd : o.guard = none) (l c : Operand)
    (ho : o.op = Op.makeSlice 50 l c) (base n : Nat) (hl : a.eval l = .int .i64 (n : Int)) (hc : a.eval c = .int .i64 (n : Int)) (hn : n ≤ 1000000) (hbase : base ≤ w.heap.size)
    (hK : ∀ w', OwnP w' base (.slice (some ⟨w.heap.size, 0, none⟩) n n) n (fun _ => []) → Below w.heap.size w w' → w.heap.size < w'.heap.size → wpList Try.prog ops Q rest (a.put o.dst (.slice (some ⟨w.heap.size, 0, none⟩) n n)) w') : wpList Try.prog ops Q (o :: rest) a w := by
  obtain ⟨i0, hi, hz0, hz1, hz2⟩ := info_parts infoPart
  refine wpList_make_full w hgd l c 50 ho base 60 i0 (.agg #[.slice none 0 0, .slice none 0 0]) 2 Try.underlying50 hi hz0 hz1 .i64 .i64 _ _ n hl hc rfl rfl (by rw [hz2]; omega) (by unfold maxLen; omega) hbase ?_
  intro w' h1 h2
  have hall : ∀ j, j < n * 2 → (madeCells (Value.agg #[.slice none 0 0, .slice none 0 0]).cells (n * 2)).toList[j]? = some (Value.slice none 0 0) := fun j hj => by
    have hm : j % 2 = 0 ∨ j % 2 = 1 := by omega
    rcases hm with hm | hm <;> simp [madeCells, Value.cells, hj, hm]
  have hsz : (madeCells (Value.agg #[.slice none 0 0, .slice none 0 0]).cells (n * 2)).toList.length = n * 2 := h1.1
  have honly : ∀ (j : Nat) (u : Value), (madeCells (Value.agg #[.slice none 0 0, .slice none 0 0]).cells (n * 2)).toList[j]? = some u → u = Value.slice none 0 0 := fun j u hu => by
    have hj : j < n * 2 := by
      rcases Nat.lt_or_ge j (n * 2) with h | h
      · exact h
      · rw [List.getElem?_eq_none (by omega)] at hu; cases hu
    rw [hall j hj] at hu
    injection hu with hu
    exact hu.symm
  exact hK w' ⟨_, h1, fun j hj => ⟨_, hall j hj, OwnE.nil _ _ _⟩, fun i j ui uj h1' _ _ => .inl (by rw [honly i ui h1']; rfl)⟩ ((Below.refl _ w).grown h2 (Nat.le_refl _) (by intro k hk; cases hk)) (World.ownsRow.lt h1 w.heap.size rfl).2

end Go.Proofs.Ytiafmhdicgmfaaa
