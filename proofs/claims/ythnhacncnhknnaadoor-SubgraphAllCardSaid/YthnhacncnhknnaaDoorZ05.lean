import Derived.Test.YthnhacncnhknnaaDoorZ04
import Derived.Lib.TrailingZeros
import Derived.Test.YthnhacncnhknnaaDoorZ02
import Derived.Test.YthnhacncnhknnaaDoorZ03
/-
  The order of parts, and the list of all parts of a small graph, as plain data.
-/
namespace Go.Proofs.YthnhacncnhknnaaDoor

/-! how lists are compared: by their lengths, then by the first numbers that differ -/
def fstD : List Int → List Int → Int
  | x :: r, y :: s => if x ≠ y then x - y else fstD r s
  | _, _ => 0
def cmpL (a b : List Int) : Int := if a.length ≠ b.length then (a.length : Int) - b.length else fstD a b
def cmpP (p q : Mo) : Int := if cmpL p.ns q.ns ≠ 0 then cmpL p.ns q.ns else cmpL p.es q.es
theorem fstD_turn : ∀ a b : List Int, fstD b a = - fstD a b
  | [], [] => rfl
  | [], _ :: _ => rfl
  | _ :: _, [] => rfl
  | x :: r, y :: s => by
    simp only [fstD]
    by_cases h : x = y
    · subst h; rw [if_neg (by simp), if_neg (by simp)]; exact fstD_turn r s
    · rw [if_pos h, if_pos (fun e => h e.symm)]; omega
theorem fstD_zero : ∀ {a b : List Int}, a.length = b.length → fstD a b = 0 → a = b
  | [], [], _, _ => rfl
  | [], _ :: _, h, _ => by simp at h
  | _ :: _, [], h, _ => by simp at h
  | x :: r, y :: s, h, e => by
    simp only [fstD] at e
    by_cases hx : x = y
    · subst hx; rw [if_neg (by simp)] at e; rw [fstD_zero (by simpa using h) e]
    · rw [if_pos hx] at e; omega
theorem fstD_self : ∀ a : List Int, fstD a a = 0
  | [] => rfl
  | x :: r => by simp only [fstD]; rw [if_neg (by simp)]; exact fstD_self r
theorem fstD_trans : ∀ {a b c : List Int}, a.length = b.length → b.length = c.length → fstD a b < 0 → fstD b c < 0 → fstD a c < 0
  | [], _, _, _, _, h, _ => by simp [fstD] at h
  | _ :: _, [], _, h, _, _, _ => by simp at h
  | _ :: _, _ :: _, [], _, h, _, _ => by simp at h
  | x :: r, y :: s, z :: t, h1, h2, h, k => by
    simp only [fstD] at h k ⊢
    by_cases e1 : x = y
    · subst e1
      rw [if_neg (by simp)] at h
      by_cases e2 : x = z
      · subst e2
        rw [if_neg (by simp)] at k ⊢
        exact fstD_trans (by simpa using h1) (by simpa using h2) h k
      · rw [if_pos e2] at k ⊢; exact k
    · rw [if_pos e1] at h
      by_cases e2 : y = z
      · subst e2; rw [if_pos e1]; exact h
      · rw [if_pos e2] at k
        rw [if_pos (by omega)]; omega
theorem cmpL_self (a : List Int) : cmpL a a = 0 := by unfold cmpL; rw [if_neg (by simp)]; exact fstD_self a
theorem cmpL_turn (a b : List Int) : cmpL b a = - cmpL a b := by
  unfold cmpL
  by_cases h : a.length = b.length
  · rw [if_neg (by simp [h]), if_neg (by simp [h])]; exact fstD_turn a b
  · rw [if_pos h, if_pos (fun e => h e.symm)]; omega
theorem cmpL_zero {a b : List Int} (h : cmpL a b = 0) : a = b := by
  unfold cmpL at h
  split at h
  · omega
  · rename_i e; exact fstD_zero (by simpa using e) h
theorem cmpL_trans {a b c : List Int} (h : cmpL a b < 0) (k : cmpL b c < 0) : cmpL a c < 0 := by
  unfold cmpL at h k ⊢
  by_cases e1 : a.length = b.length
  · rw [if_neg (by simp [e1])] at h
    by_cases e2 : b.length = c.length
    · rw [if_neg (by simp [e2])] at k
      rw [if_neg (by simp [e1, e2])]
      exact fstD_trans e1 e2 h k
    · rw [if_pos e2] at k
      rw [if_pos (by omega)]; omega
  · rw [if_pos e1] at h
    by_cases e2 : b.length = c.length
    · rw [if_pos (by omega)]; omega
    · rw [if_pos e2] at k
      rw [if_pos (by omega)]; omega
theorem cmpP_self (p : Mo) : cmpP p p = 0 := by unfold cmpP; rw [if_neg (by simp [cmpL_self])]; exact cmpL_self _
theorem cmpP_turn (p q : Mo) : cmpP q p = - cmpP p q := by
  unfold cmpP
  have h := cmpL_turn p.ns q.ns
  have k := cmpL_turn p.es q.es
  by_cases e : cmpL p.ns q.ns = 0
  · rw [if_neg (by omega), if_neg (by omega)]; exact k
  · rw [if_pos (by omega), if_pos e]; exact h
theorem cmpP_zero {p q : Mo} (h : cmpP p q = 0) : p = q := by
  unfold cmpP at h
  split at h
  · omega
  · rename_i e
    have e1 := cmpL_zero (a := p.ns) (b := q.ns) (by omega)
    have e2 := cmpL_zero h
    cases p; cases q; simp at e1 e2; rw [e1, e2]
theorem cmpP_trans {p q r : Mo} (h : cmpP p q < 0) (k : cmpP q r < 0) : cmpP p r < 0 := by
  unfold cmpP at h k ⊢
  by_cases e1 : cmpL p.ns q.ns = 0
  · have := cmpL_zero e1
    rw [if_neg (by omega)] at h
    rw [this]
    by_cases e2 : cmpL q.ns r.ns = 0
    · rw [if_neg (by omega)] at k ⊢
      exact cmpL_trans h k
    · rw [if_pos e2] at k ⊢; exact k
  · rw [if_pos e1] at h
    by_cases e2 : cmpL q.ns r.ns = 0
    · have := cmpL_zero e2
      rw [← this, if_pos e1]; exact h
    · rw [if_pos e2] at k
      have := cmpL_trans h k
      rw [if_pos (by omega)]; exact this

/-! lists of parts that ascend -/
def SrtP (l : List Mo) : Prop := l.Pairwise fun p q => cmpP p q < 0
theorem srt_ext {l k : List Mo} (h1 : SrtP l) (h2 : SrtP k) (h : ∀ x, x ∈ l ↔ x ∈ k) : l = k := by
  have irr : ∀ {x : Mo}, ¬ cmpP x x < 0 := fun {x} => by rw [cmpP_self]; omega
  induction l generalizing k with
  | nil =>
    cases k with
    | nil => rfl
    | cons y s => exact absurd ((h y).2 List.mem_cons_self) (by simp)
  | cons x r ih =>
    cases k with
    | nil => exact absurd ((h x).1 List.mem_cons_self) (by simp)
    | cons y s =>
      have hx := List.pairwise_cons.1 h1
      have hy := List.pairwise_cons.1 h2
      have e : x = y := by
        have a := (h x).1 List.mem_cons_self
        have b := (h y).2 List.mem_cons_self
        rcases List.mem_cons.1 a with e | a
        · exact e
        · rcases List.mem_cons.1 b with e | b
          · exact e.symm
          · have := hx.1 y b; have := hy.1 x a; have := cmpP_turn x y; omega
      subst e
      refine congrArg (x :: ·) (ih hx.2 hy.2 fun z => ?_)
      have hz := h z
      simp only [List.mem_cons] at hz
      constructor
      · intro m
        rcases hz.1 (.inr m) with e | m'
        · subst e; exact absurd (hx.1 z m) irr
        · exact m'
      · intro m
        rcases hz.2 (.inr m) with e | m'
        · subst e; exact absurd (hy.1 z m) irr
        · exact m'
/-- how many of a list come first before a part -/
def posP (l : List Mo) (p : Mo) : Nat := (l.takeWhile fun q => decide (cmpP q p < 0)).length
def insP (l : List Mo) (p : Mo) : List Mo := l.take (posP l p) ++ p :: l.drop (posP l p)
theorem ins_mem {l : List Mo} {p x : Mo} : x ∈ insP l p ↔ x = p ∨ x ∈ l := by
  unfold insP
  constructor
  · intro h
    rcases List.mem_append.1 h with h | h
    · exact .inr (List.mem_of_mem_take h)
    · rcases List.mem_cons.1 h with h | h
      · exact .inl h
      · exact .inr (List.mem_of_mem_drop h)
  · rintro (rfl | h)
    · exact List.mem_append_right _ List.mem_cons_self
    · rw [← List.take_append_drop (posP l p) l] at h
      rcases List.mem_append.1 h with h | h
      · exact List.mem_append_left _ h
      · exact List.mem_append_right _ (List.mem_cons_of_mem _ h)
theorem insP_len (l : List Mo) (p : Mo) : (insP l p).length = l.length + 1 := by
  unfold insP
  rw [List.length_append, List.length_cons, List.length_take, List.length_drop]
  have : posP l p ≤ l.length := (List.takeWhile_prefix _).length_le
  omega
theorem pos_le (l : List Mo) (p : Mo) : posP l p ≤ l.length := (List.takeWhile_prefix _).length_le
theorem pos_cons {x : Mo} {r : List Mo} {p : Mo} : posP (x :: r) p = if cmpP x p < 0 then posP r p + 1 else 0 := by
  unfold posP
  by_cases h : cmpP x p < 0
  · rw [if_pos h, List.takeWhile_cons_of_pos (by simpa using h)]; rfl
  · rw [if_neg h, List.takeWhile_cons_of_neg (by simpa using h)]; rfl
theorem pos_before {l : List Mo} {p : Mo} {i : Nat} (h : i < posP l p) : cmpP (l.getD i default) p < 0 := by
  induction l generalizing i with
  | nil => simp [posP] at h
  | cons x r ih =>
    rw [pos_cons] at h
    split at h
    · rename_i hx
      cases i with
      | zero => exact hx
      | succ i => exact ih (by omega)
    · omega
theorem pos_here {l : List Mo} {p : Mo} (h : posP l p < l.length) : ¬ cmpP (l.getD (posP l p) default) p < 0 := by
  induction l with
  | nil => simp at h
  | cons x r ih =>
    rw [pos_cons] at h ⊢
    by_cases hx : cmpP x p < 0
    · rw [if_pos hx] at h ⊢
      exact ih (by simpa using h)
    · rw [if_neg hx]; exact hx
theorem ins_srt {l : List Mo} {p : Mo} (h : SrtP l) (hn : ¬ p ∈ l) : SrtP (insP l p) := by
  unfold SrtP at *
  induction l with
  | nil => exact List.pairwise_singleton _ _
  | cons x r ih =>
    obtain ⟨h1, h2⟩ := List.pairwise_cons.1 h
    have hxp : cmpP x p ≠ 0 := fun e => hn (by rw [cmpP_zero e]; exact List.mem_cons_self)
    unfold insP
    rw [pos_cons]
    by_cases hx : cmpP x p < 0
    · rw [if_pos hx, List.take_succ_cons, List.drop_succ_cons, List.cons_append]
      refine List.pairwise_cons.2 ⟨fun y hy => ?_, ih h2 fun m => hn (List.mem_cons_of_mem _ m)⟩
      rcases ins_mem.1 hy with rfl | hy
      · exact hx
      · exact h1 y hy
    · rw [if_neg hx]
      show List.Pairwise _ (p :: x :: r)
      have hpx : cmpP p x < 0 := by have := cmpP_turn x p; omega
      refine List.pairwise_cons.2 ⟨fun y hy => ?_, h⟩
      rcases List.mem_cons.1 hy with rfl | hy
      · exact hpx
      · exact cmpP_trans hpx (h1 y hy)

/-! all parts, by the bits of numbers -/
def setP (g : Gr) (s : Nat) : Mo := ⟨sel (fun i => s.testBit i) g.ns.length, sel (fun i => (s >>> g.ns.length).testBit i) g.es.length⟩
def pAllTo (g : Gr) : Nat → List Mo
  | 0 => []
  | k + 1 => if rightE g (setP g k) = 0 then insP (pAllTo g k) (setP g k) else pAllTo g k
def pAll (g : Gr) : List Mo := pAllTo g (2 ^ (g.ns.length + g.es.length))
theorem num_of (f : Nat → Bool) (n : Nat) : ∃ s, s < 2 ^ n ∧ ∀ i, i < n → s.testBit i = f i := by
  induction n generalizing f with
  | zero => exact ⟨0, by simp, fun i hi => by omega⟩
  | succ n ih =>
    obtain ⟨s, hs, h⟩ := ih fun i => f (i + 1)
    have hp : 2 ^ (n + 1) = 2 * 2 ^ n := by rw [Nat.pow_succ, Nat.mul_comm]
    by_cases h0 : f 0 = true
    · refine ⟨2 * s + 1, by omega, fun i hi => ?_⟩
      cases i with
      | zero => rw [Nat.testBit_zero, h0]; simp
      | succ i => rw [Nat.testBit_succ, show (2 * s + 1) / 2 = s by omega]; exact h i (by omega)
    · refine ⟨2 * s, by omega, fun i hi => ?_⟩
      cases i with
      | zero => rw [Nat.testBit_zero, show f 0 = false by simpa using h0]; simp
      | succ i => rw [Nat.testBit_succ, show 2 * s / 2 = s by omega]; exact h i (by omega)
theorem setP_inj {g : Gr} {s t : Nat} (hs : s < 2 ^ (g.ns.length + g.es.length)) (ht : t < 2 ^ (g.ns.length + g.es.length)) (h : setP g s = setP g t) : s = t := by
  apply Nat.eq_of_testBit_eq
  intro i
  have h1 : sel (fun i => s.testBit i) g.ns.length = sel (fun i => t.testBit i) g.ns.length := congrArg Mo.ns h
  have h2 : sel (fun i => (s >>> g.ns.length).testBit i) g.es.length = sel (fun i => (t >>> g.ns.length).testBit i) g.es.length := congrArg Mo.es h
  by_cases e1 : i < g.ns.length
  · rw [Bool.eq_iff_iff]
    have a := sel_has (f := fun i => s.testBit i) (n := g.ns.length) (i := i)
    have b := sel_has (f := fun i => t.testBit i) (n := g.ns.length) (i := i)
    rw [h1] at a
    exact ⟨fun x => (b.1 (a.2 ⟨e1, x⟩)).2, fun x => (a.1 (b.2 ⟨e1, x⟩)).2⟩
  · by_cases e2 : i - g.ns.length < g.es.length
    · rw [Bool.eq_iff_iff]
      have a := sel_has (f := fun i => (s >>> g.ns.length).testBit i) (n := g.es.length) (i := i - g.ns.length)
      have b := sel_has (f := fun i => (t >>> g.ns.length).testBit i) (n := g.es.length) (i := i - g.ns.length)
      rw [h2] at a
      rw [Nat.testBit_shiftRight, show g.ns.length + (i - g.ns.length) = i by omega] at a b
      exact ⟨fun x => (b.1 (a.2 ⟨e2, x⟩)).2, fun x => (a.1 (b.2 ⟨e2, x⟩)).2⟩
    · have hm : 2 ^ (g.ns.length + g.es.length) ≤ 2 ^ i := Nat.pow_le_pow_right (by omega) (by omega)
      rw [Nat.testBit_lt_two_pow (by omega), Nat.testBit_lt_two_pow (by omega)]
theorem pAllTo_mem {g : Gr} {k : Nat} {p : Mo} : p ∈ pAllTo g k ↔ ∃ s, s < k ∧ rightE g (setP g s) = 0 ∧ p = setP g s := by
  induction k with
  | zero => simp [pAllTo]
  | succ k ih =>
    simp only [pAllTo]
    split
    · rename_i h
      rw [ins_mem, ih]
      constructor
      · rintro (rfl | ⟨s, h1, h2, rfl⟩)
        · exact ⟨k, by omega, h, rfl⟩
        · exact ⟨s, by omega, h2, rfl⟩
      · rintro ⟨s, h1, h2, rfl⟩
        by_cases e : s = k
        · subst e; exact .inl rfl
        · exact .inr ⟨s, by omega, h2, rfl⟩
    · rename_i h
      rw [ih]
      constructor
      · rintro ⟨s, h1, h2, rfl⟩; exact ⟨s, by omega, h2, rfl⟩
      · rintro ⟨s, h1, h2, rfl⟩
        by_cases e : s = k
        · subst e; exact absurd h2 h
        · exact ⟨s, by omega, h2, rfl⟩
theorem pAllTo_srt {g : Gr} {k : Nat} (hk : k ≤ 2 ^ (g.ns.length + g.es.length)) : SrtP (pAllTo g k) := by
  induction k with
  | zero => exact List.Pairwise.nil
  | succ k ih =>
    simp only [pAllTo]
    split
    · refine ins_srt (ih (by omega)) fun m => ?_
      obtain ⟨s, h1, _, e⟩ := pAllTo_mem.1 m
      have := setP_inj (by omega) (by omega) e
      omega
    · exact ih (by omega)
theorem pAllTo_len (g : Gr) (k : Nat) : (pAllTo g k).length ≤ k := by
  induction k with
  | zero => exact Nat.le_refl _
  | succ k ih =>
    simp only [pAllTo]
    split
    · rw [insP_len]; omega
    · omega
theorem pAll_mem {g : Gr} {p : Mo} : p ∈ pAll g ↔ PartOk g p := by
  unfold pAll
  rw [pAllTo_mem]
  constructor
  · rintro ⟨s, _, h, rfl⟩; exact right_zero.1 h
  · intro h
    obtain ⟨s, hs, hb⟩ := num_of (fun i => if i < g.ns.length then inB p.ns i else inB p.es (i - g.ns.length)) (g.ns.length + g.es.length)
    have e : p = setP g s := by
      have e1 : p.ns = sel (fun i => s.testBit i) g.ns.length := asc_eq_sel h.an h.rn fun i hi => by
        rw [hb i (by omega), if_pos hi, inB_iff]
      have e2 : p.es = sel (fun i => (s >>> g.ns.length).testBit i) g.es.length := asc_eq_sel h.ae h.re fun i hi => by
        rw [Nat.testBit_shiftRight, hb (g.ns.length + i) (by omega), if_neg (by omega), inB_iff, show g.ns.length + i - g.ns.length = i by omega]
      cases p
      simp only at e1 e2
      unfold setP
      rw [← e1, ← e2]
    exact ⟨s, hs, by rw [← e]; exact right_zero.2 h, e⟩
theorem pAll_srt (g : Gr) : SrtP (pAll g) := pAllTo_srt (Nat.le_refl _)
/-- a list of all parts that ascends is this one -/
theorem pAll_is {g : Gr} {l : List Mo} (h : SrtP l) (hm : ∀ p, p ∈ l ↔ PartOk g p) : l = pAll g := srt_ext h (pAll_srt g) fun x => by rw [hm, pAll_mem]
def pAllE (g : Gr) : Nat := if validE g ≠ 0 then validE g else if 6 < g.ns.length + g.es.length then 3 else 0
def pAllR (g : Gr) : List Mo := if pAllE g = 0 then pAll g else []

end Go.Proofs.YthnhacncnhknnaaDoor

/-
  What the texts on parts need: boxes of any number of cells; stores into boxes of slices; calls that hand over a part or a morphism; what the functions on parts promise, in one form for the program and the reference.
-/
namespace Go.Proofs.YthnhacncnhknnaaDoor
open Go.RowKit Go.Shelf

/-- since w: boxes in new blocks, one after another -/
def SV (w : World) (L : List (List Value × TypeId)) (u : World) : Prop := Below w.heap.size w u ∧ w.heap.size + L.length ≤ u.heap.size ∧ ∀ (i : Nat) (x : List Value × TypeId), L[i]? = some x → u.heap[w.heap.size + i]? = some (.cells x.1.toArray x.2 (0, 0))
theorem SV.nil (w : World) : SV w [] w := ⟨Below.refl _ _, Nat.le_refl _, fun i x h => by simp at h⟩
theorem SV.push {w u : World} {L : List (List Value × TypeId)} (h : SV w L u) (hs : u.heap.size = w.heap.size + L.length) (cs : List Value) (t : TypeId) : SV w (L ++ [(cs, t)]) (u.alloc (.cells cs.toArray t)) := by
  refine ⟨h.1.alloc (by omega) _, by simp; omega, fun i x hx => ?_⟩
  by_cases hi : i < L.length
  · rw [List.getElem?_append_left hi] at hx
    rw [at_alloc, if_neg (by omega)]
    exact h.2.2 i x hx
  · rw [List.getElem?_append_right (by omega)] at hx
    have h0 : i - L.length = 0 := by
      rcases Nat.eq_zero_or_pos (i - L.length) with h | h
      · exact h
      · rw [List.getElem?_eq_none (by simp; omega)] at hx; cases hx
    rw [h0] at hx
    simp at hx
    subst hx
    rw [at_alloc, if_pos (by omega)]
theorem SV.up {w u u' : World} {L : List (List Value × TypeId)} (h : SV w L u) (hb : Below u.heap.size u u') : SV w L u' := ⟨h.1.trans (hb.mono h.1.size), Nat.le_trans h.2.1 hb.size, fun i x hx => heap_up hb (h.2.2 i x hx)⟩
theorem SV.cell {w u : World} {L : List (List Value × TypeId)} (h : SV w L u) {i j : Nat} {x : List Value × TypeId} {v : Value} (hx : L[i]? = some x) (hv : x.1[j]? = some v) : u.cell? ⟨w.heap.size + i, j, none⟩ = some v := by
  rw [cell_of_row _ _ j _ _ _ (h.2.2 i x hx)]
  simpa using hv
theorem SV.set {w u : World} {L : List (List Value × TypeId)} (h : SV w L u) {g : Nat} (hg : w.heap.size + L.length ≤ g) (y z : Value) : SV w L ((u.setCell ⟨g, 0, none⟩ y).setCell ⟨g, 1, none⟩ z) := by
  refine ⟨(h.1.setCell (p := ⟨g, 0, none⟩) (by show w.heap.size ≤ g; omega) y).setCell (p := ⟨g, 1, none⟩) (by show w.heap.size ≤ g; omega) z, by simpa using h.2.1, fun k x hx => ?_⟩
  have hl : k < L.length := (List.getElem?_eq_some_iff.1 hx).1
  exact (heap_setCell_other _ _ _ _ (by show w.heap.size + k ≠ g; omega)).trans ((heap_setCell_other _ _ _ _ (by show w.heap.size + k ≠ g; omega)).trans (h.2.2 k x hx))
/-- a box of two slices -/
def BX (g : Nat) (u v : Value) (t : TypeId) (W : World) : Prop := W.heap[g]? = some (.cells #[u, v] t (0, 0))
theorem BX.up {g : Nat} {u v : Value} {t : TypeId} {W W' : World} (h : BX g u v t W) (hb : Below W.heap.size W W') : BX g u v t W' := heap_up hb h
theorem BX.cells {g : Nat} {u v : Value} {t : TypeId} {W : World} (h : BX g u v t W) : W.cell? ⟨g, 0, none⟩ = some u ∧ W.cell? ⟨g, 1, none⟩ = some v := cell2 h
theorem BX.free {g : Nat} {u v : Value} {t : TypeId} {W : World} (h : BX g u v t W) (j : Nat) : W.frozen? ⟨g, j, none⟩ = false := frozen_of_row _ _ _ _ _ h
theorem BX.lt {g : Nat} {u v : Value} {t : TypeId} {W : World} (h : BX g u v t W) : g < W.heap.size := heap_lt h
theorem BX.far {g k : Nat} {u v : Value} {t : TypeId} {W : World} (h : BX g u v t W) (hk : g ≠ k) (y z : Value) : BX g u v t ((W.setCell ⟨k, 0, none⟩ y).setCell ⟨k, 1, none⟩ z) :=
  (heap_setCell_other _ _ _ _ (by show g ≠ k; exact hk)).trans ((heap_setCell_other _ _ _ _ (by show g ≠ k; exact hk)).trans h)
theorem BX.put {g : Nat} {u v : Value} {t : TypeId} {W : World} (h : BX g u v t W) (y z : Value) : BX g y z t ((W.setCell ⟨g, 0, none⟩ y).setCell ⟨g, 1, none⟩ z) := store2 (h := g) ⟨_, _, h⟩ y z
/-- a store into a box of slices turns no slice of numbers -/
theorem ints_set {w : World} {B : Nat} {A : Option Addr} {xs : List Int} (h : Ints w B A xs) {g : Nat} {a a' : Option Addr} {n c n' c' : Nat} {t : TypeId} (hb : BX g (.slice a n c) (.slice a' n' c') t w) (y z : Value) : Ints ((w.setCell ⟨g, 0, none⟩ y).setCell ⟨g, 1, none⟩ z) B A xs := by
  rcases h with h | ⟨b, off, h1, h2, h3⟩
  · exact .inl h
  · refine .inr ⟨b, off, h1, h2, fun i x hx q u hu => ?_⟩
    have hc := h3 i x hx q u hu
    have hne : g ≠ b := fun e => by
      subst e
      rw [cell_of_row _ _ _ _ _ _ hb] at hc
      have hm : u ∈ (#[Value.slice a n c, Value.slice a' n' c'] : Array Value) := Array.mem_of_getElem? hc
      have hm2 : u = .int .i64 x := by simpa [EInt] using List.mem_of_getElem? hu
      subst hm2
      simp at hm
    rw [World.cell?_setCell_far _ _ _ _ hne, World.cell?_setCell_far _ _ _ _ hne]
    exact hc
theorem ints_set' {w : World} {A : Option Addr} {xs : List Int} (h : Ints w w.heap.size A xs) {g : Nat} {a a' : Option Addr} {n c n' c' : Nat} {t : TypeId} (hb : BX g (.slice a n c) (.slice a' n' c') t w) (y z : Value) : Ints ((w.setCell ⟨g, 0, none⟩ y).setCell ⟨g, 1, none⟩ z) ((w.setCell ⟨g, 0, none⟩ y).setCell ⟨g, 1, none⟩ z).heap.size A xs := by
  have := ints_set h hb y z
  simpa using this
/-- a call that hands over a morphism -/
abbrev GivesM (f : FuncId) (args : Array Value) (E : Nat) (R : Mo) (u : World) : Prop := Calls Tryd.prog f args u fun e w' => (∃ Xn xn Xe xe, e = .returned (.tuple #[gval Xn R.ns.length xn Xe R.es.length xe, .int .i64 (E : Int)]) ∧ Ints w' w'.heap.size Xn R.ns ∧ Ints w' w'.heap.size Xe R.es ∧ R.ns.length ≤ maxLen ∧ R.es.length ≤ maxLen) ∧ Below u.heap.size u w'
theorem givesM {f : FuncId} {args : Array Value} {E : Nat} {R : Mo} {u : World} (h : Calls Tryd.prog f args u fun e w' => (∃ v, e = .returned (.tuple #[v, .int .i64 (E : Int)]) ∧ IsM w' v R) ∧ Below u.heap.size u w') : GivesM f args E R u := by
  refine h.mono ?_
  rintro e w' ⟨⟨v, rfl, Xn, xn, Xe, xe, rfl, hx⟩, hb⟩
  exact ⟨⟨Xn, xn, Xe, xe, rfl, hx.ns, hx.es, Nat.le_trans hx.cn.1 hx.cn.2, Nat.le_trans hx.ce.1 hx.ce.2⟩, hb⟩
abbrev R2 (m : Mo) : Prop := m.ns.length ≤ maxLen ∧ m.es.length ≤ maxLen

/-! what the functions on parts promise -/
/-- a part in memory -/
structure PtAt (w : World) (An Ae : Option Addr) (p : Mo) : Prop where
  ns : Ints w w.heap.size An p.ns
  es : Ints w w.heap.size Ae p.es
  ln : p.ns.length ≤ 1000
  le : p.es.length ≤ 1000
theorem PtAt.up {w w' : World} {An Ae : Option Addr} {p : Mo} (h : PtAt w An Ae p) (hb : Below w.heap.size w w') : PtAt w' An Ae p := ⟨Reads.up h.ns hb, Reads.up h.es hb, h.ln, h.le⟩
def ValidC (f : FuncId) : Prop := ∀ (g : Gr) (p : Mo) (An : Option Addr) (cn : Nat) (Ae : Option Addr) (ce : Nat) (Pn : Option Addr) (pn : Nat) (Pe : Option Addr) (pe : Nat) (w : World), GrAt w An cn Ae ce g → PtAt w Pn Pe p →
  Calls Tryd.prog f #[gval An g.ns.length cn Ae g.es.length ce, gval Pn p.ns.length pn Pe p.es.length pe] w fun e w' => e = .returned (.int .i64 (partE g p : Nat)) ∧ Below w.heap.size w w'
/-- of a graph that is right -/
def RightC (f : FuncId) : Prop := ∀ (g : Gr) (p : Mo) (An : Option Addr) (cn : Nat) (Ae : Option Addr) (ce : Nat) (Pn : Option Addr) (pn : Nat) (Pe : Option Addr) (pe : Nat) (w : World), GrAt w An cn Ae ce g → validE g = 0 → PtAt w Pn Pe p →
  Calls Tryd.prog f #[gval An g.ns.length cn Ae g.es.length ce, gval Pn p.ns.length pn Pe p.es.length pe] w fun e w' => e = .returned (.int .i64 (rightE g p : Nat)) ∧ Below w.heap.size w w'
def CloseC (f : FuncId) : Prop := ∀ (g : Gr) (vs xs : List Int) (An : Option Addr) (cn : Nat) (Ae : Option Addr) (ce : Nat) (A : Option Addr) (a : Nat) (B : Option Addr) (b : Nat) (w : World), GrAt w An cn Ae ce g → Ints w w.heap.size A vs → Ints w w.heap.size B xs → vs.length ≤ 200 → xs.length ≤ 200 →
  GivesM f #[gval An g.ns.length cn Ae g.es.length ce, .slice A vs.length a, .slice B xs.length b] (closeE g vs xs) (closeP g vs xs) w
def TwoC (f : FuncId) (R : Gr → Mo → Mo → Mo) : Prop := ∀ (g : Gr) (p q : Mo) (An : Option Addr) (cn : Nat) (Ae : Option Addr) (ce : Nat) (Pn : Option Addr) (pn : Nat) (Pe : Option Addr) (pe : Nat) (Qn : Option Addr) (qn : Nat) (Qe : Option Addr) (qe : Nat) (w : World), GrAt w An cn Ae ce g → PtAt w Pn Pe p → PtAt w Qn Qe q →
  GivesM f #[gval An g.ns.length cn Ae g.es.length ce, gval Pn p.ns.length pn Pe p.es.length pe, gval Qn q.ns.length qn Qe q.es.length qe] (twoE g p q) (R g p q) w
/-- a call that hands over a graph, a morphism and an error -/
abbrev GivesGM (f : FuncId) (args : Array Value) (E : Nat) (G : Gr) (R : Mo) (u : World) : Prop := Calls Tryd.prog f args u fun e w' => (∃ Gn gn Ge ge Xn xn Xe xe, e = .returned (.tuple #[gval Gn G.ns.length gn Ge G.es.length ge, gval Xn R.ns.length xn Xe R.es.length xe, .int .i64 (E : Int)]) ∧ GrAt w' Gn gn Ge ge G ∧ Ints w' w'.heap.size Xn R.ns ∧ Ints w' w'.heap.size Xe R.es ∧ R.ns.length ≤ maxLen ∧ R.es.length ≤ maxLen) ∧ Below u.heap.size u w'
def ExtC (f : FuncId) : Prop := ∀ (g : Gr) (p : Mo) (An : Option Addr) (cn : Nat) (Ae : Option Addr) (ce : Nat) (Pn : Option Addr) (pn : Nat) (Pe : Option Addr) (pe : Nat) (w : World), GrAt w An cn Ae ce g → PtAt w Pn Pe p →
  GivesGM f #[gval An g.ns.length cn Ae g.es.length ce, gval Pn p.ns.length pn Pe p.es.length pe] (partE g p) (extG g p) (extM g p) w
def ImgC (f : FuncId) : Prop := ∀ (a b : Gr) (m : Mo) (An : Option Addr) (cn : Nat) (Ae : Option Addr) (ce : Nat) (Bn : Option Addr) (dn : Nat) (Be : Option Addr) (de : Nat) (Mn : Option Addr) (mn : Nat) (Me : Option Addr) (me : Nat) (w : World), GrAt w An cn Ae ce a → GrAt w Bn dn Be de b → PtAt w Mn Me m →
  GivesM f #[gval An a.ns.length cn Ae a.es.length ce, gval Bn b.ns.length dn Be b.es.length de, gval Mn m.ns.length mn Me m.es.length me] (morE a b m) (imR a b m) w
def PreC (f : FuncId) : Prop := ∀ (a b : Gr) (m p : Mo) (An : Option Addr) (cn : Nat) (Ae : Option Addr) (ce : Nat) (Bn : Option Addr) (dn : Nat) (Be : Option Addr) (de : Nat) (Mn : Option Addr) (mn : Nat) (Me : Option Addr) (me : Nat) (Pn : Option Addr) (pn : Nat) (Pe : Option Addr) (pe : Nat) (w : World), GrAt w An cn Ae ce a → GrAt w Bn dn Be de b → PtAt w Mn Me m → PtAt w Pn Pe p →
  GivesM f #[gval An a.ns.length cn Ae a.es.length ce, gval Bn b.ns.length dn Be b.es.length de, gval Mn m.ns.length mn Me m.es.length me, gval Pn p.ns.length pn Pe p.es.length pe] (preE a b m p) (preR a b m p) w
/-- a call that hands over a list of numbers and an error -/
abbrev GivesI (f : FuncId) (args : Array Value) (E : Nat) (R : List Int) (u : World) : Prop := Calls Tryd.prog f args u fun e w' => (∃ X x, e = .returned (.tuple #[.slice X R.length x, .int .i64 (E : Int)]) ∧ Ints w' w'.heap.size X R ∧ R.length ≤ maxLen) ∧ Below u.heap.size u w'
def BndC (f : FuncId) : Prop := ∀ (g : Gr) (p : Mo) (An : Option Addr) (cn : Nat) (Ae : Option Addr) (ce : Nat) (Pn : Option Addr) (pn : Nat) (Pe : Option Addr) (pe : Nat) (w : World), GrAt w An cn Ae ce g → PtAt w Pn Pe p →
  GivesI f #[gval An g.ns.length cn Ae g.es.length ce, gval Pn p.ns.length pn Pe p.es.length pe] (partE g p) (bndR g p) w
/-- the library's table lies in its variable -/
def TabV (w : World) : Prop := (∀ j, j < 64 → w.cell? ⟨1, j, none⟩ = some (.int .u8 (Lib.deBruijn64tab.getD j 0))) ∧ 1 < w.heap.size
theorem TabV.up {w w' : World} (h : TabV w) (hb : Below w.heap.size w w') : TabV w' := by
  refine ⟨fun j hj => ?_, Nat.lt_of_lt_of_le h.2 hb.size⟩
  exact (hb.cell (p := ⟨1, j, none⟩) h.2).trans (h.1 j hj)
def AllC (f : FuncId) : Prop := ∀ (g : Gr) (An : Option Addr) (cn : Nat) (Ae : Option Addr) (ce : Nat) (w : World), TabV w → GrAt w An cn Ae ce g →
  Calls Tryd.prog f #[gval An g.ns.length cn Ae g.es.length ce] w fun e w' => (∃ v, e = .returned (.tuple #[v, .int .i64 (pAllE g : Nat)]) ∧ IsP w' v (pAllR g)) ∧ Below w.heap.size w w'

end Go.Proofs.YthnhacncnhknnaaDoor

/-
  Graphs: checkAscending, ascending, places.
-/
namespace Go.Proofs.YthnhacncnhknnaaDoor
open Go.RowKit

theorem asc_six {l : List Int} {n k : Nat} (h : idxB (l.getD k 0) n = false) : ascAt l n k = 6 := if_pos h
theorem asc_twelve {l : List Int} {n k : Nat} (h : idxB (l.getD k 0) n = true) (h2 : 0 < k) (h3 : l.getD k 0 ≤ l.getD (k - 1) 0) : ascAt l n k = 12 := by
  unfold ascAt
  rw [if_neg (by rw [h]; simp), if_pos ⟨h2, h3⟩]
theorem asc_pass {l : List Int} {n k : Nat} (h : idxB (l.getD k 0) n = true) (h2 : ¬ (0 < k ∧ l.getD k 0 ≤ l.getD (k - 1) 0)) : ascAt l n k = 0 := by
  unfold ascAt
  rw [if_neg (by rw [h]; simp), if_neg h2]

set_option maxRecDepth 100000 in
set_option maxHeartbeats 2000000 in
theorem ascP_any (l : List Int) (n : Nat) (A : Option Addr) (B c : Nat) (w : World) (hl : l.length ≤ maxLen) (hA : Ints w B A l) :
    Calls Tryd.prog 73 #[.slice A l.length c, .int .i64 (n : Int)] w fun e w' => e = .returned (.int .i64 (ascE l n)) ∧ w = w' := by
  unfold maxLen at hl
  have HT := Lib.hid hA
  have HI := Lib.hid (fun x u => isIndex_any x n u)
  have H6 := Lib.hid (fun k h => asc_six (l := l) (n := n) (k := k) h)
  have H12 := Lib.hid (fun k h h2 h3 => asc_twelve (l := l) (n := n) (k := k) h h2 h3)
  have HP := Lib.hid (fun k h h2 => asc_pass (l := l) (n := n) (k := k) h h2)
  have HHIT := Lib.hid (fun k (h : k < l.length) hf => fstN_hit (f := ascAt l n) h hf)
  have HPASS := Lib.hid (fun k (h : k < l.length) hf => fstN_pass (f := ascAt l n) h hf)
  have HEND := Lib.hid (fun k (h : l.length ≤ k) => fstN_end (f := ascAt l n) h)
  have HX : Hid (ascE l n = fstN (ascAt l n) 0 (l.length - 0)) := Lib.hid rfl
  clear hA
  generalize ascE l n = R at HX ⊢
  generalize ascAt l n = f at *
  go_enter Tryd.func73, Tryd.ntmps73
  go_wp2_with fail
  go_loop [9] (fun i => ∃ k : Nat, k ≤ l.length ∧ i = .int .i64 k ∧ R = fstN f k (l.length - k)) (fun i => l.length - (intOf i).toNat)
  case atStart => exact ⟨0, Nat.zero_le _, rfl, HX.out⟩
  case round =>
    clear HX
    obtain ⟨k, hk, rfl, hr⟩ := hrel
    have HR := Lib.hid hr
    clear hr
    by_cases hlt : k < l.length
    · obtain ⟨b, off, rfl, hb, hc⟩ := Ints.cells HT.out hlt
      have ck := hc k hlt
      have HC := Lib.hid (HI.out (l.getD k 0))
      by_cases h1 : idxB (l.getD k 0) n = true
      case neg =>
        have h1' : idxB (l.getD k 0) n = false := by simpa using h1
        have h6 := H6.out k h1'
        have HE := Lib.hid (show R = 6 by rw [HR.out, HHIT.out k hlt (by omega), h6])
        rw [h1'] at HC
        clear hc h6 h1 h1'
        generalize l.getD k 0 = x at *
        go_wp2_with fail
        refine (HC.out _).mono ?_
        rintro e w' ⟨rfl, rfl⟩
        go_wp2_with fail
        go_ret
        exact ⟨ret_int (by rw [HE.out]; rfl), rfl⟩
      by_cases h0 : 0 < k
      · have ck1 := hc (k - 1) (by omega)
        have e1 : (k : Int) - 1 = ((k - 1 : Nat) : Int) := by omega
        have q0 : (0 : Int) ≤ (k : Int) - 1 := by omega
        have q1 : (k : Int) - 1 < (l.length : Int) := by omega
        have q2 : ((k : Int) - 1).toNat = k - 1 := by omega
        have q3 : (0 : Int) < (k : Int) := by omega
        clear hc
        by_cases h2 : l.getD k 0 ≤ l.getD (k - 1) 0
        · have h6 := H12.out k h1 h0 h2
          have HE := Lib.hid (show R = 12 by rw [HR.out, HHIT.out k hlt (by omega), h6])
          rw [h1] at HC
          clear h6 h1 e1
          generalize l.getD k 0 = x at *
          generalize l.getD (k - 1) 0 = y at *
          have t1 : decide (x ≤ y) = true := decide_eq_true h2
          clear h2
          go_wp2_with fail
          refine (HC.out _).mono ?_
          rintro e w' ⟨rfl, rfl⟩
          go_wp2_with fail
          go_ret
          exact ⟨ret_int (by rw [HE.out]; rfl), rfl⟩
        · have h6 := HP.out k h1 (fun h => h2 h.2)
          have HE := Lib.hid (show R = fstN f (k + 1) (l.length - (k + 1)) by rw [HR.out, HPASS.out k hlt h6])
          rw [h1] at HC
          clear h6 h1 e1
          generalize l.getD k 0 = x at *
          generalize l.getD (k - 1) 0 = y at *
          have t1 : decide (x ≤ y) = false := decide_eq_false h2
          clear h2
          go_wp2_with fail
          refine (HC.out _).mono ?_
          rintro e w' ⟨rfl, rfl⟩
          go_wp2_with fail
          go_round
          case rel => exact ⟨k + 1, by omega, by go_num, HE.out⟩
          case measure => simp [intOf]; omega
      · have h6 := HP.out k h1 (fun h => h0 h.1)
        have HE := Lib.hid (show R = fstN f (k + 1) (l.length - (k + 1)) by rw [HR.out, HPASS.out k hlt h6])
        rw [h1] at HC
        clear h6 h1 hc
        generalize l.getD k 0 = x at *
        have q3 : decide (0 < (k : Int)) = false := decide_eq_false (by omega)
        have q4 : decide (0 < k) = false := decide_eq_false h0
        clear h0
        go_wp2_with fail
        refine (HC.out _).mono ?_
        rintro e w' ⟨rfl, rfl⟩
        go_wp2_with fail
        go_round
        case rel => exact ⟨k + 1, by omega, by go_num, HE.out⟩
        case measure => simp [intOf]; omega
    · have HE := Lib.hid (show R = 0 by rw [HR.out, HEND.out k (by omega)])
      go_wp2_with fail
      go_ret
      exact ⟨ret_int (by rw [HE.out]; rfl), rfl⟩

end Go.Proofs.YthnhacncnhknnaaDoor

/-
  Parts of graphs, the reference's small functions: has, ascending, marked, index, into, merged, bits, compare.
-/
namespace Go.Proofs.YthnhacncnhknnaaDoor
open Go.RowKit

/-! slices of bools -/
def EBo : El Bool := ⟨fun b => [.bool b], 1, fun _ => rfl, fun x u hu => by simp at hu; subst hu; rfl⟩
theorem infoBo : (Tryd.prog.info? 4).map (fun i => (i.zero, i.size, i.bytes)) = some (some (.bool false), 1, 1) := by kernel_rfl
abbrev Bos (w : World) (B : Nat) (A : Option Addr) (xs : List Bool) : Prop := Reads EBo w B A xs
abbrev OwnB (w : World) (base : Nat) (v : Value) (xs : List Bool) : Prop := OwnE EBo 4 w base v xs
theorem Bos.cells {w : World} {B : Nat} {A : Option Addr} {xs : List Bool} (h : Bos w B A xs) {k : Nat} (hk : k < xs.length) :
    ∃ b off, A = some ⟨b, off, none⟩ ∧ b < B ∧ ∀ i, i < xs.length → w.cell? ⟨b, off + i, none⟩ = some (.bool (xs.getD i false)) := by
  obtain ⟨b, off, h1, h2, h3⟩ := Reads.at h hk
  refine ⟨b, off, h1, h2, fun i hi => ?_⟩
  have := h3 i hi 0 (.bool xs[i]) rfl
  have e : EBo.size = 1 := rfl
  rw [e, Nat.mul_one, Nat.add_zero] at this
  rw [this]
  simp [List.getD, hi]
theorem cellsE_bo (xs : List Bool) : cellsE EBo xs = xs.map Value.bool := by
  induction xs with
  | nil => rfl
  | cons x r ih =>
    have : cellsE EBo (x :: r) = .bool x :: cellsE EBo r := rfl
    rw [this, ih]; rfl
theorem OwnB.free {w : World} {base g c n : Nat} {xs : List Bool} (hn : n = xs.length) (h : OwnB w base (.slice (some ⟨g, 0, none⟩) n c) xs) (j : Nat) : w.frozen? ⟨g, j, none⟩ = false := by
  subst hn
  exact World.ownsRow.frozenAt h j
theorem OwnB.set {w : World} {base g c n : Nat} {xs : List Bool} (hn : n = xs.length) (h : OwnB w base (.slice (some ⟨g, 0, none⟩) n c) xs) (j : Nat) (m : Bool) :
    OwnB (w.setCell ⟨g, j, none⟩ (.bool m)) base (.slice (some ⟨g, 0, none⟩) n c) (xs.set j m) ∧ w.grownBy (w.setCell ⟨g, j, none⟩ (.bool m)) (some g) := by
  subst hn
  have := World.ownsRow.stored h j (.bool m)
  refine ⟨?_, this.2⟩
  have e : (xs.set j m).length = xs.length := by simp
  unfold OwnB OwnE
  rw [e, cellsE_bo, List.map_set, ← cellsE_bo]
  exact this.1

set_option maxRecDepth 100000 in
set_option maxHeartbeats 2000000 in
theorem asc7_any (l : List Int) (n : Nat) (A : Option Addr) (B c : Nat) (w : World) (hl : l.length ≤ maxLen) (hA : Ints w B A l) :
    Calls Tryd.prog 87 #[.slice A l.length c, .int .i64 (n : Int)] w fun e w' => e = .returned (.int .i64 (ascE l n)) ∧ ∃ q, w' = w.drewN q := by
  unfold maxLen at hl
  have HT := Lib.hid hA
  have HID : Hid (∀ x, idxB x n = (decide (0 ≤ x) && decide (x < (n : Int)))) := Lib.hid fun x => rfl
  have H6 := Lib.hid (fun k h => asc_six (l := l) (n := n) (k := k) h)
  have H12 := Lib.hid (fun k h h2 h3 => asc_twelve (l := l) (n := n) (k := k) h h2 h3)
  have HP := Lib.hid (fun k h h2 => asc_pass (l := l) (n := n) (k := k) h h2)
  have HHIT := Lib.hid (fun k (h : k < l.length) hf => fstN_hit (f := ascAt l n) h hf)
  have HPASS := Lib.hid (fun k (h : k < l.length) hf => fstN_pass (f := ascAt l n) h hf)
  have HEND := Lib.hid (fun k (h : l.length ≤ k) => fstN_end (f := ascAt l n) h)
  have HX : Hid (ascE l n = fstN (ascAt l n) 0 (l.length - 0)) := Lib.hid rfl
  clear hA
  generalize ascE l n = R at HX ⊢
  generalize ascAt l n = f at *
  go_enter Tryd.func87, Tryd.ntmps87
  go_wp2_with fail
  go_loopw [5] (fun i wr => ∃ k q : Nat, k ≤ l.length ∧ i = .int .i64 k ∧ R = fstN f k (l.length - k) ∧ wr = w.drewN q) (fun i _ => l.length - (intOf i).toNat)
  case atStart => exact ⟨0, 0, Nat.zero_le _, rfl, HX.out, rfl⟩
  case round =>
    clear HX
    obtain ⟨k, q, hk, rfl, hr, rfl⟩ := hrel
    have HR := Lib.hid hr
    clear hr
    by_cases hlt : k < l.length
    · obtain ⟨b, off, rfl, hb, hc⟩ := Ints.cells HT.out hlt
      have ck := hc k hlt
      by_cases h1 : idxB (l.getD k 0) n = true
      case neg =>
        have h1' : idxB (l.getD k 0) n = false := by simpa using h1
        have h6 := H6.out k h1'
        have HE := Lib.hid (show R = 6 by rw [HR.out, HHIT.out k hlt (by omega), h6])
        have hx := idxB_not.1 h1'
        clear hc h6 h1 h1'
        generalize l.getD k 0 = x at *
        by_cases hx0 : x < 0
        · clear hx
          go_wp2_with fail
          go_ret
          exact ⟨ret_int (by rw [HE.out]; rfl), _, rfl⟩
        · have hx1 : (n : Int) ≤ x := by omega
          clear hx
          go_wp2_with fail
          go_ret
          exact ⟨ret_int (by rw [HE.out]; rfl), _, rfl⟩
      obtain ⟨g0, g1⟩ := idxB_iff.1 h1
      by_cases h0 : 0 < k
      · have ck1 := hc (k - 1) (by omega)
        have q0 : (0 : Int) ≤ (k : Int) - 1 := by omega
        have q1 : (k : Int) - 1 < (l.length : Int) := by omega
        have q2 : ((k : Int) - 1).toNat = k - 1 := by omega
        have q3 : decide (0 < (k : Int)) = true := decide_eq_true (by omega)
        have q4 : decide (0 < k) = true := decide_eq_true (by omega)
        have i0 : (0 : Int) ≤ (k : Int) := by omega
        have i1 : (k : Int) < (l.length : Int) := by omega
        have i2 : ((k : Int)).toNat = k := by omega
        have e1 : IntKind.i64.wrap ((k : Int) - 1) = (k : Int) - 1 := IntWalk.i64_in _ (by omega)
        clear hc
        by_cases h2 : l.getD k 0 ≤ l.getD (k - 1) 0
        · have h6 := H12.out k h1 h0 h2
          have HE := Lib.hid (show R = 12 by rw [HR.out, HHIT.out k hlt (by omega), h6])
          clear h6 h1
          generalize l.getD k 0 = x at *
          generalize l.getD (k - 1) 0 = y at *
          have t1 : decide (x ≤ y) = true := decide_eq_true h2
          clear h2
          go_wp2_with fail
          go_quiet (fail)
          go_wp2_with fail
          go_ret
          exact ⟨ret_int (by rw [HE.out]; rfl), _, (by first | rfl | exact World.drewN_drewN _ _ _)⟩
        · have h6 := HP.out k h1 (fun h => h2 h.2)
          have HE := Lib.hid (show R = fstN f (k + 1) (l.length - (k + 1)) by rw [HR.out, HPASS.out k hlt h6])
          clear h6 h1
          generalize l.getD k 0 = x at *
          generalize l.getD (k - 1) 0 = y at *
          have t1 : decide (x ≤ y) = false := decide_eq_false h2
          clear h2
          go_wp2_with fail
          go_quiet (fail)
          clear e1
          go_wp2_with fail
          go_roundw
          case rel => exact ⟨k + 1, _, by omega, by go_num, HE.out, rfl⟩
          case measure => simp [intOf]; omega
      · have h6 := HP.out k h1 (fun h => h0 h.1)
        have HE := Lib.hid (show R = fstN f (k + 1) (l.length - (k + 1)) by rw [HR.out, HPASS.out k hlt h6])
        clear h6 h1 hc
        generalize l.getD k 0 = x at *
        have q3 : decide (0 < (k : Int)) = false := decide_eq_false (by omega)
        have q4 : decide (0 < k) = false := decide_eq_false h0
        clear h0
        go_wp2_with fail
        go_quiet (fail)
        go_wp2_with fail
        go_roundw
        case rel => exact ⟨k + 1, _, by omega, by go_num, HE.out, rfl⟩
        case measure => simp [intOf]; omega
    · have HE := Lib.hid (show R = 0 by rw [HR.out, HEND.out k (by omega)])
      go_wp2_with fail
      go_ret
      exact ⟨ret_int (by rw [HE.out]; rfl), _, rfl⟩

set_option maxHeartbeats 1000000 in
theorem has7_any (l : List Int) (x : Int) (A : Option Addr) (B c : Nat) (w : World) (hl : l.length ≤ maxLen) (hA : Ints w B A l) :
    Calls Tryd.prog 82 #[.slice A l.length c, .int .i64 x] w fun e w' => e = .returned (.bool (decide (x ∈ l))) ∧ w' = w := by
  unfold maxLen at hl
  have HA := Lib.hid hA
  have HY : Hid (∀ k, k < l.length → l.getD k 0 = x → decide (x ∈ l) = true) := Lib.hid fun k hk e => decide_eq_true (by rw [← e]; exact getD_mem hk)
  have HN : Hid ((∀ k, k < l.length → l.getD k 0 ≠ x) → decide (x ∈ l) = false) := Lib.hid fun h => decide_eq_false fun m => by
    obtain ⟨i, hi, e⟩ := List.mem_iff_getElem.1 m
    exact h i hi (by rw [List.getD_eq_getElem?_getD, List.getElem?_eq_getElem hi]; exact e)
  clear hA
  generalize decide (x ∈ l) = R at *
  go_enter Tryd.func82, Tryd.ntmps82
  go_wp2_with fail
  go_loop [5] (fun v => ∃ k : Nat, k ≤ l.length ∧ v = .int .i64 (k : Int) ∧ ∀ j, j < k → l.getD j 0 ≠ x) (fun v => l.length - (intOf v).toNat)
  case atStart => exact ⟨0, Nat.zero_le _, rfl, fun j h => by omega⟩
  case round =>
    obtain ⟨k, hk, rfl, hs⟩ := hrel
    have HS := Lib.hid hs
    clear hs
    by_cases hlt : k < l.length
    · obtain ⟨b, off, rfl, hb, hc⟩ := Ints.cells HA.out hlt
      have ck := hc k hlt
      have hk0 : (0 : Int) ≤ (k : Int) := by omega
      have hk1 : (k : Int) < (l.length : Int) := by omega
      have hk2 : ((k : Int)).toNat = k := by omega
      clear hc
      by_cases he : l.getD k 0 = x
      · have HR := Lib.hid (HY.out k hlt he)
        rw [he] at ck
        clear he
        have t2 : (x == x) = true := by simp
        go_wp2_with fail
        go_ret
        exact ⟨ret_bool (by rw [HR.out]), rfl⟩
      · have HS2 : Hid (∀ j, j < k + 1 → l.getD j 0 ≠ x) := Lib.hid fun j hj => by
          by_cases e : j = k
          · subst e; exact he
          · exact HS.out j (by omega)
        generalize l.getD k 0 = y at *
        have t2 : (y == x) = false := ne_beq he
        clear he
        go_wp2_with fail
        go_round
        case rel => exact ⟨k + 1, by omega, by go_num, HS2.out⟩
        case measure => simp [intOf]; omega
    · have HR := Lib.hid (HN.out fun j hj => HS.out j (by omega))
      go_wp2_with fail
      go_ret
      exact ⟨ret_bool (by rw [HR.out]), rfl⟩

theorem idx_some {l : List Int} {x : Int} {k : Nat} (h : ∀ j, j < k → l.getD j 0 ≠ x) (hk : k < l.length) (e : l.getD k 0 = x) : idxOf l x l.length = (k : Int) := by
  have h1 : idxOf l x (k + 1) = (k : Int) := by
    simp only [idxOf]
    rw [idx_not h, if_neg (by simp), if_pos e]
  obtain ⟨d, hd⟩ : ∃ d, l.length = k + 1 + d := ⟨l.length - (k + 1), by omega⟩
  rw [hd]
  clear hd
  induction d with
  | zero => exact h1
  | succ d ih =>
    rw [← Nat.add_assoc]
    simp only [idxOf]
    rw [ih, if_pos (by omega)]
theorem sel_yes {f : Nat → Bool} {k : Nat} (h : f k = true) : sel f (k + 1) = sel f k ++ [(k : Int)] := by rw [sel_succ, if_pos h]
theorem sel_no {f : Nat → Bool} {k : Nat} (h : f k = false) : sel f (k + 1) = sel f k := by rw [sel_succ, if_neg (by simp [h]), List.append_nil]
set_option maxHeartbeats 1000000 in
theorem marked_any (l : List Bool) (A : Option Addr) (c : Nat) (w : World) (hl : l.length ≤ 1000) (hA : Bos w w.heap.size A l) :
    Calls Tryd.prog 81 #[.slice A l.length c] w fun e w' => ∃ v, e = .returned v ∧ OwnI w' w.heap.size v (sel (fun i => l.getD i false) l.length) ∧ Below w.heap.size w w' := by
  have HA := Lib.hid hA
  clear hA
  have HY := Lib.hid (fun k (h : (fun i => l.getD i false) k = true) => sel_yes (f := (fun i => l.getD i false)) h)
  have HN := Lib.hid (fun k (h : (fun i => l.getD i false) k = false) => sel_no (f := (fun i => l.getD i false)) h)
  have HLE := Lib.hid (fun k => sel_le (fun i => l.getD i false) k)
  have H0 : Hid (sel (fun i => l.getD i false) 0 = []) := Lib.hid rfl
  generalize sel (fun i => l.getD i false) = P at *
  go_enter Tryd.func81, Tryd.ntmps81
  go_wp2_with fail
  go_loopw [3, 4] (fun v x wr => ∃ k : Nat, k ≤ l.length ∧ x = .int .i64 (k : Int) ∧ OwnI wr w.heap.size v (P k) ∧ Below w.heap.size w wr) (fun _ x _ => l.length - (intOf x).toNat)
  case atStart => exact ⟨0, Nat.zero_le _, rfl, by rw [H0.out]; exact OwnE.nil _ _ _, Below.refl _ _⟩
  case round =>
    obtain ⟨k, hk, rfl, hown, hbel⟩ := hrel
    have HG := Lib.hid hbel
    have hsz := hbel.size
    have e9 := HLE.out k
    obtain ⟨ao, cap, rfl⟩ := OwnE.slice hown
    have HW := Lib.hid hown
    by_cases hlt : k < l.length
    · have hk0 : (0 : Int) ≤ (k : Int) := by omega
      have hk1 : (k : Int) < ((l.length : Nat) : Int) := by omega
      have hk2 : ((k : Int)).toNat = k := by omega
      have HM : Hid (l.length - ((k : Int) + 1).toNat < l.length - ((k : Int)).toNat) := Lib.hid (by omega)
      have HLT := Lib.hid hlt
      obtain ⟨b, off, rfl, hb, hc⟩ := Bos.cells (HA.out.below hbel) hlt
      have ck := hc k hlt
      clear hc hown hbel
      cases hz : l.getD k false
      case false =>
        have HN2 := Lib.hid (HN.out k hz)
        rw [hz] at ck
        clear hz
        go_wp2_with fail
        go_roundw
        case rel => exact ⟨k + 1, HLT.out, by go_num, by rw [HN2.out]; exact HW.out, HG.out⟩
        case measure => exact HM.out
      case true =>
        have HY2 := Lib.hid (HY.out k hz)
        rw [hz] at ck
        clear hz
        go_wp2_with (at_builtin; refine wpList_append_int (w := wr.alloc _) rfl _ _ rfl w.heap.size _ (P k) rfl ?y1 wr.heap.size 1 (k : Int) rfl ?y2 ?y3 ?y4 ?_)
        case y1 => exact HW.out.alloc _
        case y2 => exact cell_new _ _ _
        case y3 => omega
        case y4 => simp; omega
        intro v2 w2 hown2 _ hb2
        have HW2 := Lib.hid (OwnE.cast HY2.out.symm hown2)
        have HB2 := Lib.hid ((HG.out.alloc hsz _).trans hb2)
        clear hown2 hb2
        go_wp2_with fail
        go_roundw
        case rel => exact ⟨k + 1, HLT.out, by go_num, HW2.out, HB2.out⟩
        case measure => exact HM.out
    · have e : k = l.length := by omega
      subst e
      clear hown hbel
      go_wp2_with fail
      go_ret
      exact ⟨_, rfl, HW.out, HG.out⟩
set_option maxHeartbeats 1000000 in
theorem into_any (m l : List Int) (A A2 : Option Addr) (c c2 : Nat) (w : World) (hm : m.length ≤ 1000) (hl : l.length ≤ 1000) (hA : Ints w w.heap.size A m) (hB : Ints w w.heap.size A2 l) :
    Calls Tryd.prog 51 #[.slice A m.length c, .slice A2 l.length c2] w fun e w' => ∃ v, e = .returned v ∧ OwnI w' w.heap.size v (sel (fun i => decide (m.getD i 0 ∈ l)) m.length) ∧ Below w.heap.size w w' := by
  have HA := Lib.hid hA
  have HHS := Lib.hid (fun (x : Int) (u : World) (hu : Below w.heap.size w u) => has7_any l x A2 w.heap.size c2 u (by unfold maxLen; omega) (hB.below hu))
  clear hA hB
  have HY := Lib.hid (fun k (h : (fun i => decide (m.getD i 0 ∈ l)) k = true) => sel_yes (f := (fun i => decide (m.getD i 0 ∈ l))) h)
  have HN := Lib.hid (fun k (h : (fun i => decide (m.getD i 0 ∈ l)) k = false) => sel_no (f := (fun i => decide (m.getD i 0 ∈ l))) h)
  have HLE := Lib.hid (fun k => sel_le (fun i => decide (m.getD i 0 ∈ l)) k)
  have H0 : Hid (sel (fun i => decide (m.getD i 0 ∈ l)) 0 = []) := Lib.hid rfl
  generalize sel (fun i => decide (m.getD i 0 ∈ l)) = P at *
  go_enter Tryd.func51, Tryd.ntmps51
  go_wp2_with fail
  go_loopw [5, 6] (fun v x wr => ∃ k : Nat, k ≤ m.length ∧ x = .int .i64 (k : Int) ∧ OwnI wr w.heap.size v (P k) ∧ Below w.heap.size w wr) (fun _ x _ => m.length - (intOf x).toNat)
  case atStart => exact ⟨0, Nat.zero_le _, rfl, by rw [H0.out]; exact OwnE.nil _ _ _, Below.refl _ _⟩
  case round =>
    obtain ⟨k, hk, rfl, hown, hbel⟩ := hrel
    have HG := Lib.hid hbel
    have hsz := hbel.size
    have e9 := HLE.out k
    obtain ⟨ao, cap, rfl⟩ := OwnE.slice hown
    have HW := Lib.hid hown
    by_cases hlt : k < m.length
    · have hk0 : (0 : Int) ≤ (k : Int) := by omega
      have hk1 : (k : Int) < ((m.length : Nat) : Int) := by omega
      have hk2 : ((k : Int)).toNat = k := by omega
      have HM : Hid (m.length - ((k : Int) + 1).toNat < m.length - ((k : Int)).toNat) := Lib.hid (by omega)
      have HLT := Lib.hid hlt
      obtain ⟨b, off, rfl, hb, hc⟩ := Ints.cells (HA.out.below hbel) hlt
      have ck := hc k hlt
      have HHK := Lib.hid (HHS.out (m.getD k 0) wr hbel)
      clear hc hown hbel
      cases hz : decide (m.getD k 0 ∈ l)
      case false =>
        have HN2 := Lib.hid (HN.out k hz)
        rw [hz] at HHK
        clear hz
        generalize m.getD k 0 = x at *
        go_wp2_with fail
        refine HHK.out.mono ?_
        rintro e w9 ⟨rfl, rfl⟩
        go_wp2_with fail
        go_roundw
        case rel => exact ⟨k + 1, HLT.out, by go_num, by rw [HN2.out]; exact HW.out, HG.out⟩
        case measure => exact HM.out
      case true =>
        have HY2 := Lib.hid (HY.out k hz)
        rw [hz] at HHK
        clear hz
        generalize m.getD k 0 = x at *
        go_wp2_with fail
        refine HHK.out.mono ?_
        rintro e w9 ⟨rfl, rfl⟩
        go_wp2_with (at_builtin; refine wpList_append_int (w := w9.alloc _) rfl _ _ rfl w.heap.size _ (P k) rfl ?y1 w9.heap.size 1 (k : Int) rfl ?y2 ?y3 ?y4 ?_)
        case y1 => exact HW.out.alloc _
        case y2 => exact cell_new _ _ _
        case y3 => omega
        case y4 => simp; omega
        intro v2 w2 hown2 _ hb2
        have HW2 := Lib.hid (OwnE.cast HY2.out.symm hown2)
        have HB2 := Lib.hid ((HG.out.alloc hsz _).trans hb2)
        clear hown2 hb2
        go_wp2_with fail
        go_roundw
        case rel => exact ⟨k + 1, HLT.out, by go_num, HW2.out, HB2.out⟩
        case measure => exact HM.out
    · have e : k = m.length := by omega
      subst e
      clear hown hbel
      go_wp2_with fail
      go_ret
      exact ⟨_, rfl, HW.out, HG.out⟩

end Go.Proofs.YthnhacncnhknnaaDoor

/-
  Parts of graphs, the reference: merged, bits, compare, Compare, Same, Few.
-/
namespace Go.Proofs.YthnhacncnhknnaaDoor
open Go.RowKit Go.Shelf

def mrg (all x y : Bool) : Bool := (x && y) || (!all && (x || y))
theorem mrg_or (x y : Bool) : mrg false x y = (x || y) := by cases x <;> cases y <;> rfl
theorem mrg_and (x y : Bool) : mrg true x y = (x && y) := by cases x <;> cases y <;> rfl
set_option maxHeartbeats 1000000 in
theorem merged_any (n : Nat) (a b : List Int) (all : Bool) (A B : Option Addr) (c d : Nat) (w : World) (hn : n ≤ 1000) (la : a.length ≤ 1000) (lb : b.length ≤ 1000) (hA : Ints w w.heap.size A a) (hB : Ints w w.heap.size B b) :
    Calls Tryd.prog 58 #[.int .i64 (n : Int), .slice A a.length c, .slice B b.length d, .bool all] w fun e w' => ∃ v, e = .returned v ∧ OwnI w' w.heap.size v (sel (fun i => mrg all (inB a i) (inB b i)) n) ∧ Below w.heap.size w w' := by
  have HA := Lib.hid (fun (x : Int) (u : World) (hu : Below w.heap.size w u) => has7_any a x A w.heap.size c u (by unfold maxLen; omega) (hA.below hu))
  have HB := Lib.hid (fun (x : Int) (u : World) (hu : Below w.heap.size w u) => has7_any b x B w.heap.size d u (by unfold maxLen; omega) (hB.below hu))
  clear hA hB
  have HY := Lib.hid (fun k (h : (fun i => mrg all (inB a i) (inB b i)) k = true) => sel_yes (f := (fun i => mrg all (inB a i) (inB b i))) h)
  have HN := Lib.hid (fun k (h : (fun i => mrg all (inB a i) (inB b i)) k = false) => sel_no (f := (fun i => mrg all (inB a i) (inB b i))) h)
  have HLE := Lib.hid (fun k => sel_le (fun i => mrg all (inB a i) (inB b i)) k)
  have H0 : Hid (sel (fun i => mrg all (inB a i) (inB b i)) 0 = []) := Lib.hid rfl
  generalize sel (fun i => mrg all (inB a i) (inB b i)) = P at *
  go_enter Tryd.func58, Tryd.ntmps58
  go_wp2_with fail
  go_loopw [9, 10] (fun v x wr => ∃ k : Nat, k ≤ n ∧ x = .int .i64 (k : Int) ∧ OwnI wr w.heap.size v (P k) ∧ Below w.heap.size w wr) (fun _ x _ => n - (intOf x).toNat)
  case atStart => exact ⟨0, Nat.zero_le _, rfl, by rw [H0.out]; exact OwnE.nil _ _ _, Below.refl _ _⟩
  case round =>
    obtain ⟨k, hk, rfl, hown, hbel⟩ := hrel
    have HG := Lib.hid hbel
    have hsz := hbel.size
    have e9 := HLE.out k
    obtain ⟨ao, cap, rfl⟩ := OwnE.slice hown
    have HW := Lib.hid hown
    by_cases hlt : k < n
    · have hk0 : (0 : Int) ≤ (k : Int) := by omega
      have hk1 : (k : Int) < ((n : Nat) : Int) := by omega
      have hk2 : ((k : Int)).toNat = k := by omega
      have HM : Hid (n - ((k : Int) + 1).toNat < n - ((k : Int)).toNat) := Lib.hid (by omega)
      have HLT := Lib.hid hlt
      obtain ⟨r1, r2⟩ := And.intro (Lib.hid (HA.out (k : Int) wr hbel)) (Lib.hid (HB.out (k : Int) wr hbel))
      have HYK := Lib.hid (HY.out k)
      have HNK := Lib.hid (HN.out k)
      clear hown hbel
      simp only [inB] at HYK HNK
      generalize decide ((k : Int) ∈ a) = x at r1 HYK HNK
      generalize decide ((k : Int) ∈ b) = y at r2 HYK HNK
      cases all <;> cases x <;> cases y
      case false.false.false =>
        have HN2 := Lib.hid (HNK.out rfl)
        clear HYK HNK
        go_wp2_with fail
        refine r1.out.mono ?_
        rintro e w8 ⟨rfl, rfl⟩
        go_wp2_with fail
        refine r2.out.mono ?_
        rintro e w9 ⟨rfl, rfl⟩
        clear r1 r2
        go_wp2_with fail
        go_roundw
        case rel => exact ⟨k + 1, HLT.out, by go_num, by rw [HN2.out]; exact HW.out, HG.out⟩
        case measure => exact HM.out
      case false.false.true =>
        have HY2 := Lib.hid (HYK.out rfl)
        clear HYK HNK
        go_wp2_with fail
        refine r1.out.mono ?_
        rintro e w8 ⟨rfl, rfl⟩
        go_wp2_with fail
        refine r2.out.mono ?_
        rintro e w9 ⟨rfl, rfl⟩
        clear r1 r2
        go_wp2_with (at_builtin; refine wpList_append_int (w := w9.alloc _) rfl _ _ rfl w.heap.size _ (P k) rfl ?y1 w9.heap.size 1 (k : Int) rfl ?y2 ?y3 ?y4 ?_)
        case y1 => exact HW.out.alloc _
        case y2 => exact cell_new _ _ _
        case y3 => omega
        case y4 => simp; omega
        intro v2 w2 hown2 _ hb2
        have HW2 := Lib.hid (OwnE.cast HY2.out.symm hown2)
        have HB2 := Lib.hid ((HG.out.alloc hsz _).trans hb2)
        clear hown2 hb2
        go_wp2_with fail
        go_roundw
        case rel => exact ⟨k + 1, HLT.out, by go_num, HW2.out, HB2.out⟩
        case measure => exact HM.out
      case false.true.false =>
        have HY2 := Lib.hid (HYK.out rfl)
        clear HYK HNK
        go_wp2_with fail
        refine r1.out.mono ?_
        rintro e w8 ⟨rfl, rfl⟩
        go_wp2_with fail
        refine r2.out.mono ?_
        rintro e w9 ⟨rfl, rfl⟩
        clear r1 r2
        go_wp2_with (at_builtin; refine wpList_append_int (w := w9.alloc _) rfl _ _ rfl w.heap.size _ (P k) rfl ?y1 w9.heap.size 1 (k : Int) rfl ?y2 ?y3 ?y4 ?_)
        case y1 => exact HW.out.alloc _
        case y2 => exact cell_new _ _ _
        case y3 => omega
        case y4 => simp; omega
        intro v2 w2 hown2 _ hb2
        have HW2 := Lib.hid (OwnE.cast HY2.out.symm hown2)
        have HB2 := Lib.hid ((HG.out.alloc hsz _).trans hb2)
        clear hown2 hb2
        go_wp2_with fail
        go_roundw
        case rel => exact ⟨k + 1, HLT.out, by go_num, HW2.out, HB2.out⟩
        case measure => exact HM.out
      case false.true.true =>
        have HY2 := Lib.hid (HYK.out rfl)
        clear HYK HNK
        go_wp2_with fail
        refine r1.out.mono ?_
        rintro e w8 ⟨rfl, rfl⟩
        go_wp2_with fail
        refine r2.out.mono ?_
        rintro e w9 ⟨rfl, rfl⟩
        clear r1 r2
        go_wp2_with (at_builtin; refine wpList_append_int (w := w9.alloc _) rfl _ _ rfl w.heap.size _ (P k) rfl ?y1 w9.heap.size 1 (k : Int) rfl ?y2 ?y3 ?y4 ?_)
        case y1 => exact HW.out.alloc _
        case y2 => exact cell_new _ _ _
        case y3 => omega
        case y4 => simp; omega
        intro v2 w2 hown2 _ hb2
        have HW2 := Lib.hid (OwnE.cast HY2.out.symm hown2)
        have HB2 := Lib.hid ((HG.out.alloc hsz _).trans hb2)
        clear hown2 hb2
        go_wp2_with fail
        go_roundw
        case rel => exact ⟨k + 1, HLT.out, by go_num, HW2.out, HB2.out⟩
        case measure => exact HM.out
      case true.false.false =>
        have HN2 := Lib.hid (HNK.out rfl)
        clear HYK HNK
        go_wp2_with fail
        refine r1.out.mono ?_
        rintro e w8 ⟨rfl, rfl⟩
        go_wp2_with fail
        refine r2.out.mono ?_
        rintro e w9 ⟨rfl, rfl⟩
        clear r1 r2
        go_wp2_with fail
        go_roundw
        case rel => exact ⟨k + 1, HLT.out, by go_num, by rw [HN2.out]; exact HW.out, HG.out⟩
        case measure => exact HM.out
      case true.false.true =>
        have HN2 := Lib.hid (HNK.out rfl)
        clear HYK HNK
        go_wp2_with fail
        refine r1.out.mono ?_
        rintro e w8 ⟨rfl, rfl⟩
        go_wp2_with fail
        refine r2.out.mono ?_
        rintro e w9 ⟨rfl, rfl⟩
        clear r1 r2
        go_wp2_with fail
        go_roundw
        case rel => exact ⟨k + 1, HLT.out, by go_num, by rw [HN2.out]; exact HW.out, HG.out⟩
        case measure => exact HM.out
      case true.true.false =>
        have HN2 := Lib.hid (HNK.out rfl)
        clear HYK HNK
        go_wp2_with fail
        refine r1.out.mono ?_
        rintro e w8 ⟨rfl, rfl⟩
        go_wp2_with fail
        refine r2.out.mono ?_
        rintro e w9 ⟨rfl, rfl⟩
        clear r1 r2
        go_wp2_with fail
        go_roundw
        case rel => exact ⟨k + 1, HLT.out, by go_num, by rw [HN2.out]; exact HW.out, HG.out⟩
        case measure => exact HM.out
      case true.true.true =>
        have HY2 := Lib.hid (HYK.out rfl)
        clear HYK HNK
        go_wp2_with fail
        refine r1.out.mono ?_
        rintro e w8 ⟨rfl, rfl⟩
        go_wp2_with fail
        refine r2.out.mono ?_
        rintro e w9 ⟨rfl, rfl⟩
        clear r1 r2
        go_wp2_with (at_builtin; refine wpList_append_int (w := w9.alloc _) rfl _ _ rfl w.heap.size _ (P k) rfl ?y1 w9.heap.size 1 (k : Int) rfl ?y2 ?y3 ?y4 ?_)
        case y1 => exact HW.out.alloc _
        case y2 => exact cell_new _ _ _
        case y3 => omega
        case y4 => simp; omega
        intro v2 w2 hown2 _ hb2
        have HW2 := Lib.hid (OwnE.cast HY2.out.symm hown2)
        have HB2 := Lib.hid ((HG.out.alloc hsz _).trans hb2)
        clear hown2 hb2
        go_wp2_with fail
        go_roundw
        case rel => exact ⟨k + 1, HLT.out, by go_num, HW2.out, HB2.out⟩
        case measure => exact HM.out
    · have e : k = n := by omega
      subst e
      clear hown hbel
      go_wp2_with fail
      go_ret
      exact ⟨_, rfl, HW.out, HG.out⟩

set_option maxHeartbeats 1000000 in
theorem same7_any (a b : Mo) (An : Option Addr) (cn : Nat) (Ae : Option Addr) (ce : Nat) (Bn : Option Addr) (dn : Nat) (Be : Option Addr) (de : Nat) (w : World) (l1 : a.ns.length ≤ maxLen) (l2 : a.es.length ≤ maxLen)
    (ha : Ints w w.heap.size An a.ns) (ha2 : Ints w w.heap.size Ae a.es) (hb : Ints w w.heap.size Bn b.ns) (hb2 : Ints w w.heap.size Be b.es) :
    Calls Tryd.prog 16 #[gval An a.ns.length cn Ae a.es.length ce, gval Bn b.ns.length dn Be b.es.length de] w fun e w' => e = .returned (.bool (decide (a = b))) ∧ Below w.heap.size w w' := by
  have HB0 : Hid (∀ o o', Below w.heap.size w ((w.alloc o).alloc o')) := Lib.hid fun o o' => ((Below.refl _ _).alloc (Nat.le_refl _) _).alloc (by simp) _
  have H1 := Lib.hid (fun u (hu : Below w.heap.size w u) => sameInts_any a.ns b.ns An Bn w.heap.size w.heap.size cn dn u l1 (Reads.below ha hu) (Reads.below hb hu))
  have H2 := Lib.hid (fun u (hu : Below w.heap.size w u) => sameInts_any a.es b.es Ae Be w.heap.size w.heap.size ce de u l2 (Reads.below ha2 hu) (Reads.below hb2 hu))
  have HX := Lib.hid (mo_eq a b)
  clear ha hb ha2 hb2
  generalize decide (a = b) = z at HX ⊢
  generalize decide (a.ns = b.ns) = z1 at H1 HX
  generalize decide (a.es = b.es) = z2 at H2 HX
  go_enter Tryd.func16, Tryd.ntmps16
  go_wp2_with fail
  refine (H1.out _ (HB0.out _ _)).mono ?_
  rintro e w1 ⟨rfl, hb1⟩
  obtain ⟨b0, b1, hsz⟩ := boxes2 hb1
  obtain ⟨c0, c1⟩ := cell2 b0
  obtain ⟨c2, c3⟩ := cell2 b1
  have HB := Lib.hid ((HB0.out _ _).trans (hb1.mono (by simp; omega)))
  clear b0 b1 hb1
  cases z1
  · go_wp2_with fail
    go_ret
    exact ⟨ret_bool (by rw [HX.out]; rfl), HB.out⟩
  · go_wp2_with fail
    refine (H2.out _ HB.out).mono ?_
    rintro e w2 ⟨rfl, hb2⟩
    have HB2 := Lib.hid (HB.out.trans (hb2.mono (by omega)))
    clear hb2
    go_wp2_with fail
    go_ret
    exact ⟨ret_bool (by rw [HX.out]; rfl), HB2.out⟩

set_option maxHeartbeats 1000000 in
theorem few7_any (m : Mo) (n : Nat) (Mn : Option Addr) (mn : Nat) (Me : Option Addr) (me : Nat) (w : World) (h1 : m.ns.length ≤ 1152921504606846976) (h2 : m.es.length ≤ 1152921504606846976) :
    Calls Tryd.prog 25 #[gval Mn m.ns.length mn Me m.es.length me, .int .i64 (n : Int)] w fun e w' => e = .returned (.bool (fewM m n)) ∧ Below w.heap.size w w' := by
  have HW : Hid (decide ((m.ns.length : Int) + (m.es.length : Int) ≤ (n : Int)) = fewM m n) := by
    unfold fewM
    exact Lib.hid (by by_cases h : m.ns.length + m.es.length ≤ n
                      · rw [decide_eq_true h]; exact decide_eq_true (by omega)
                      · rw [decide_eq_false h]; exact decide_eq_false (by omega))
  generalize fewM m n = R at *
  go_enter Tryd.func25, Tryd.ntmps25
  go_wp2_with fail
  go_ret
  exact ⟨ret_bool HW.out, (Below.refl _ _).alloc (Nat.le_refl _) _⟩

theorem fstD_drop {a b : List Int} {k : Nat} (h : k < a.length) (h2 : k < b.length) : fstD (a.drop k) (b.drop k) = if a.getD k 0 ≠ b.getD k 0 then a.getD k 0 - b.getD k 0 else fstD (a.drop (k + 1)) (b.drop (k + 1)) := by
  rw [List.drop_eq_getElem_cons h, List.drop_eq_getElem_cons h2]
  simp only [fstD]
  rw [List.getD_eq_getElem?_getD, List.getD_eq_getElem?_getD, List.getElem?_eq_getElem h, List.getElem?_eq_getElem h2]
  rfl
theorem fstD_end {a b : List Int} {k : Nat} (h : a.length ≤ k) : fstD (a.drop k) (b.drop k) = 0 := by
  rw [List.drop_eq_nil_of_le h]; rfl

set_option maxHeartbeats 1000000 in
theorem compare_any (a b : List Int) (A B : Option Addr) (c d : Nat) (w : World) (la : a.length ≤ 1000) (lb : b.length ≤ 1000) (ra : ∀ x ∈ a, 0 ≤ x ∧ x < 1000) (rb : ∀ x ∈ b, 0 ≤ x ∧ x < 1000) (hA : Ints w w.heap.size A a) (hB : Ints w w.heap.size B b) :
    Calls Tryd.prog 75 #[.slice A a.length c, .slice B b.length d] w fun e w' => e = .returned (.int .i64 (cmpL a b)) ∧ Below w.heap.size w w' := by
  by_cases hl : a.length = b.length
  case neg =>
    have t : ((a.length : Int) != (b.length : Int)) = true := by simp; omega
    have HR : Hid (cmpL a b = (a.length : Int) - b.length) := Lib.hid (if_pos hl)
    generalize cmpL a b = R at *
    clear hl hA hB ra rb
    go_enter Tryd.func75, Tryd.ntmps75
    go_wp2_with fail
    go_ret
    exact ⟨ret_int (by rw [HR.out]), Below.refl _ _⟩
  have t : ((a.length : Int) != (b.length : Int)) = false := by simp; omega
  have HL := Lib.hid hl
  have HX : Hid (cmpL a b = fstD (a.drop 0) (b.drop 0)) := Lib.hid (if_neg (by simp [hl]))
  have HST := Lib.hid (fun k h1 h2 => fstD_drop (a := a) (b := b) (k := k) h1 h2)
  have HEN := Lib.hid (fun k h => fstD_end (a := a) (b := b) (k := k) h)
  have HA := Lib.hid hA
  have HB := Lib.hid hB
  have HRA := Lib.hid ra
  have HRB := Lib.hid rb
  clear hA hB ra rb hl
  generalize cmpL a b = R at *
  generalize hF : (fun k => fstD (a.drop k) (b.drop k)) = F
  have eF : ∀ k, fstD (a.drop k) (b.drop k) = F k := fun k => by rw [← hF]
  simp only [eF] at HX HST HEN
  clear hF eF
  go_enter Tryd.func75, Tryd.ntmps75
  go_wp2_with fail
  clear t
  go_loopw [5] (fun i wr => ∃ k q : Nat, k ≤ a.length ∧ i = .int .i64 k ∧ wr = w.drewN q ∧ R = F k) (fun i _ => a.length - (intOf i).toNat)
  case atStart => exact ⟨0, 0, Nat.zero_le _, rfl, rfl, HX.out⟩
  case round =>
    obtain ⟨k, q, hk, rfl, rfl, hs⟩ := hrel
    have HS := Lib.hid hs
    clear hs HX
    by_cases hlt : k < a.length
    · have hlt' : k < b.length := by have := HL.out; omega
      obtain ⟨g1, o1, rfl, hb1, hc⟩ := Ints.cells HA.out hlt
      obtain ⟨g2, o2, rfl, hb2, hd⟩ := Ints.cells HB.out hlt'
      have ck := hc k hlt
      have dk := hd k hlt'
      have q1 := HRA.out _ (getD_mem (d := (0 : Int)) hlt)
      have q2 := HRB.out _ (getD_mem (d := (0 : Int)) hlt')
      have HSK := Lib.hid (HST.out k hlt hlt')
      have hk0 : (0 : Int) ≤ (k : Int) := by omega
      have hk1 : (k : Int) < (a.length : Int) := by omega
      have hk1' : (k : Int) < (b.length : Int) := by omega
      have hk2 : ((k : Int)).toNat = k := by omega
      clear hc hd
      generalize a.getD k 0 = x at *
      generalize b.getD k 0 = y at *
      by_cases he : x = y
      · subst he
        have HN : Hid (R = F (k + 1)) := Lib.hid (by rw [HS.out, HSK.out, if_neg (by simp)])
        have t2 : (x != x) = false := by simp
        clear q1 q2
        go_wp2_with fail
        go_quiet (fail)
        go_wp2_with fail
        go_roundw
        case rel => exact ⟨k + 1, _, by omega, by go_num, rfl, HN.out⟩
        case measure => simp [intOf]; omega
      · have HN : Hid (R = x - y) := Lib.hid (by rw [HS.out, HSK.out, if_pos he])
        have t2 : (x != y) = true := by simp [bne, he]
        clear he
        go_wp2_with fail
        go_quiet (fail)
        go_wp2_with fail
        go_quiet (fail)
        go_wp2_with fail
        go_ret
        exact ⟨ret_int (by rw [HN.out]), below_draws (below_draws (below_draws (Below.refl _ _) q) _) _⟩
    · have HN : Hid (R = 0) := Lib.hid (by rw [HS.out]; exact HEN.out k (by omega))
      go_wp2_with fail
      go_ret
      exact ⟨ret_int (by rw [HN.out]), below_draws (Below.refl _ _) q⟩

set_option maxHeartbeats 1000000 in
theorem cmp7_any (a b : Mo) (An : Option Addr) (cn : Nat) (Ae : Option Addr) (ce : Nat) (Bn : Option Addr) (dn : Nat) (Be : Option Addr) (de : Nat) (w : World) (ha : PtAt w An Ae a) (hb : PtAt w Bn Be b) (r1 : ∀ x ∈ a.ns, 0 ≤ x ∧ x < 1000) (r2 : ∀ x ∈ a.es, 0 ≤ x ∧ x < 1000) (s1 : ∀ x ∈ b.ns, 0 ≤ x ∧ x < 1000) (s2 : ∀ x ∈ b.es, 0 ≤ x ∧ x < 1000) :
    Calls Tryd.prog 41 #[gval An a.ns.length cn Ae a.es.length ce, gval Bn b.ns.length dn Be b.es.length de] w fun e w' => e = .returned (.int .i64 (cmpP a b)) ∧ Below w.heap.size w w' := by
  have HB0 : Hid (∀ o o', Below w.heap.size w ((w.alloc o).alloc o')) := Lib.hid fun o o' => ((Below.refl _ _).alloc (Nat.le_refl _) _).alloc (by simp) _
  have H1 := Lib.hid (fun u (hu : Below w.heap.size w u) => compare_any a.ns b.ns An Bn cn dn u ha.ln hb.ln r1 s1 (Reads.up ha.ns hu) (Reads.up hb.ns hu))
  have H2 := Lib.hid (fun u (hu : Below w.heap.size w u) => compare_any a.es b.es Ae Be ce de u ha.le hb.le r2 s2 (Reads.up ha.es hu) (Reads.up hb.es hu))
  have HX : Hid (cmpP a b = if cmpL a.ns b.ns ≠ 0 then cmpL a.ns b.ns else cmpL a.es b.es) := Lib.hid rfl
  clear ha hb r1 r2 s1 s2
  generalize cmpP a b = R at *
  generalize cmpL a.ns b.ns = x at *
  generalize cmpL a.es b.es = y at *
  go_enter Tryd.func41, Tryd.ntmps41
  go_wp2_with fail
  refine (H1.out _ (HB0.out _ _)).mono ?_
  rintro e w1 ⟨rfl, hb1⟩
  obtain ⟨b0, b1, hsz⟩ := boxes2 hb1
  obtain ⟨c0, c1⟩ := cell2 b0
  obtain ⟨c2, c3⟩ := cell2 b1
  have HB := Lib.hid ((HB0.out _ _).trans (hb1.mono (by simp; omega)))
  clear b0 b1 hb1
  by_cases hx : x = 0
  · have HR : Hid (R = y) := Lib.hid (by rw [HX.out, if_neg (by simp [hx])])
    have t : (x != 0) = false := by simp [hx]
    clear hx
    go_wp2_with fail
    refine (H2.out _ HB.out).mono ?_
    rintro e w2 ⟨rfl, hb2⟩
    have HB2 := Lib.hid (HB.out.trans (hb2.mono (by omega)))
    clear hb2
    go_wp2_with fail
    go_ret
    exact ⟨ret_int (by rw [HR.out]), HB2.out⟩
  · have HR : Hid (R = x) := Lib.hid (by rw [HX.out, if_pos hx])
    have t : (x != 0) = true := by simp [bne, hx]
    clear hx
    go_wp2_with fail
    go_ret
    exact ⟨ret_int (by rw [HR.out]), HB.out⟩


end Go.Proofs.YthnhacncnhknnaaDoor

/-
  Parts of graphs, the laws: own, small, and small of an arrow. Printed by mkl1.py.
-/
namespace Go.Proofs.YthnhacncnhknnaaDoor
open Go.RowKit Go.Shelf

set_option maxRecDepth 100000 in
set_option maxHeartbeats 4000000 in
theorem ownM_any (m : Mo) (Mn : Option Addr) (mn : Nat) (Me : Option Addr) (me : Nat) (w : World) (hm1 : Ints w w.heap.size Mn m.ns) (hm2 : Ints w w.heap.size Me m.es) (lm1 : m.ns.length ≤ 1000) (lm2 : m.es.length ≤ 1000) :
    Calls Tryd.prog 20 #[gval Mn m.ns.length mn Me m.es.length me] w fun e w' => (∃ v u, e = .returned (.agg #[v, u]) ∧ OwnI w' w.heap.size v (m.ns) ∧ OwnI w' w.heap.size u (m.es)) ∧ Below w.heap.size w w' := by
  have hS0 : SR w _ ((w.alloc (.cells #[.slice Mn m.ns.length mn, .slice Me m.es.length me] 27)).alloc (.cells #[.slice none 0 0, .slice none 0 0] 27)) := SR.push (SR.push (SR.nil w) rfl _ _ _) (by simp) _ _ _
  have HN1 := Lib.hid (fun u (hu : Below w.heap.size w u) => cloneI_any m.ns Mn u.heap.size mn u (by omega) (Reads.up hm1 hu))
  have HN2 := Lib.hid (fun u (hu : Below w.heap.size w u) => cloneI_any m.es Me u.heap.size me u (by omega) (Reads.up hm2 hu))
  clear hm1 hm2
  generalize m.ns = L1 at *
  generalize m.es = L2 at *
  go_enter Tryd.func20, Tryd.ntmps20
  go_wp2_with fail
  generalize hw1 : ((w.alloc (.cells #[.slice Mn L1.length mn, .slice Me L2.length me] 27)).alloc (.cells #[.slice none 0 0, .slice none 0 0] 27)) = w1 at *
  clear hw1
  have HS := Lib.hid hS0
  have HWS : Hid (w.heap.size ≤ w1.drew.heap.size) := Lib.hid hS0.1.size
  clear hS0
  obtain ⟨c0x, c0y⟩ := HS.out.cell (i := 0) rfl
  obtain ⟨c1x, c1y⟩ := HS.out.cell (i := 1) rfl
  simp only [Nat.add_zero] at c0x c0y
  have fr0 := HS.out.free (i := 1) rfl 0
  have fr1 := HS.out.free (i := 1) rfl 1
  have HSd : Hid (SR w _ w1.drew) := Lib.hid (HS.out.up (below_d _))
  have HS1 : Hid ((fun u : World => u.cell? ⟨w.heap.size, 0, none⟩ = some (.slice Mn L1.length mn) ∧ u.cell? ⟨w.heap.size, 1, none⟩ = some (.slice Me L2.length me)) w1.drew) := Lib.hid ⟨c0x, c0y⟩
  have HUP : Hid (∀ u u', (fun u : World => u.cell? ⟨w.heap.size, 0, none⟩ = some (.slice Mn L1.length mn) ∧ u.cell? ⟨w.heap.size, 1, none⟩ = some (.slice Me L2.length me)) u → Below u.heap.size u u' → (fun u : World => u.cell? ⟨w.heap.size, 0, none⟩ = some (.slice Mn L1.length mn) ∧ u.cell? ⟨w.heap.size, 1, none⟩ = some (.slice Me L2.length me)) u') := Lib.hid fun u u' h hb => ⟨cell_up hb (h.1), cell_up hb (h.2)⟩
  clear c0x c0y c1x c1y fr0 fr1
  refine wp_region_noPanic ?_
  refine wp_region_held_drew (S := (fun u : World => u.cell? ⟨w.heap.size, 0, none⟩ = some (.slice Mn L1.length mn) ∧ u.cell? ⟨w.heap.size, 1, none⟩ = some (.slice Me L2.length me))) (by kernel_rfl) (HS1.out) (fun hHeld => ?_)
  refine wpAnyH_take (i := 0) (v := ?_) (oper_at (r := _) rfl) (by kernel_rfl) (by kernel_rfl) (by kernel_rfl) (fun _ _ _ h => h) (Or.inl ⟨by rfl, ?_⟩) (by assumption) ?_
  rotate_left
  · intro w hSw; try dsimp only at hSw
    go_simp
    try with_reducible rfl
  try simp only [Act.put, List.setIfInBounds_toArray, List.set_cons_zero, List.set_cons_succ]
  refine wpAnyH_take (i := 1) (v := ?_) (oper_at (r := _) rfl) (by kernel_rfl) (by kernel_rfl) (by kernel_rfl) (fun _ _ _ h => h) (Or.inl ⟨by rfl, ?_⟩) (by assumption) ?_
  rotate_left
  · intro w hSw; try dsimp only at hSw
    go_simp
    try with_reducible rfl
  try simp only [Act.put, List.setIfInBounds_toArray, List.set_cons_zero, List.set_cons_succ]
  refine wpAnyH_take (i := 3) (v := ?_) (oper_at (r := _) rfl) (by kernel_rfl) (by kernel_rfl) (by kernel_rfl) (fun _ _ _ h => h) (Or.inl ⟨by rfl, ?_⟩) (by assumption) ?_
  rotate_left
  · intro w hSw; try dsimp only at hSw
    go_simp
    try with_reducible rfl
  try simp only [Act.put, List.setIfInBounds_toArray, List.set_cons_zero, List.set_cons_succ]
  refine wpAnyH_take (i := 4) (v := ?_) (oper_at (r := _) rfl) (by kernel_rfl) (by kernel_rfl) (by kernel_rfl) (fun _ _ _ h => h) (Or.inl ⟨by rfl, ?_⟩) (by assumption) ?_
  rotate_left
  · intro w hSw; try dsimp only at hSw
    go_simp
    try with_reducible rfl
  try simp only [Act.put, List.setIfInBounds_toArray, List.set_cons_zero, List.set_cons_succ]
  refine wpAnyH_ready (rs := [2]) (by kernel_rfl) (by simp) ?_
  refine AllReadyH.cons (oper_at (r := _) rfl) (fun K hK => ?_) AllReadyH.nil
  go_simp
  refine (HN1.out _ HSd.out.1).mono ?_
  rintro e w2 ⟨v2, rfl, ho2, hb2⟩
  have HS2 := Lib.hid (HUP.out _ _ HS1.out hb2)
  have HLE := Lib.hid hb2.size
  have HSR2 := Lib.hid (HSd.out.up hb2)
  have HO2 := Lib.hid ho2
  obtain ⟨A2, d2, rfl⟩ := OwnE.slice ho2
  clear ho2 hb2
  go_wp2_with fail
  refine hK.out _ _ (HS2.out) (fun _ => ?_)
  clear hK K
  try simp only [Act.put, List.setIfInBounds_toArray, List.set_cons_zero, List.set_cons_succ]
  refine wpAnyH_ready (rs := [5]) (by kernel_rfl) (by simp) ?_
  refine AllReadyH.cons (oper_at (r := _) rfl) (fun K hK => ?_) AllReadyH.nil
  go_simp
  refine (HN2.out _ HSR2.out.1).mono ?_
  rintro e w3 ⟨v3, rfl, ho3, hb3⟩
  have HS3 := Lib.hid (HUP.out _ _ HS2.out hb3)
  have HSR3 := Lib.hid (HSR2.out.up hb3)
  have HOO := Lib.hid (OwnE.below HO2.out hb3 (Nat.le_refl _))
  have HO3 := Lib.hid ho3
  obtain ⟨A3, d3, rfl⟩ := OwnE.slice ho3
  clear ho3 hb3 HO2
  go_wp2_with fail
  refine hK.out _ _ (HS3.out) (fun _ => ?_)
  clear hK K
  try simp only [Act.put, List.setIfInBounds_toArray, List.set_cons_zero, List.set_cons_succ]
  refine wpAnyH_take (i := 6) (v := ?_) (oper_at (r := _) rfl) (by kernel_rfl) (by kernel_rfl) (by kernel_rfl) (fun _ _ _ h => h) (Or.inl ⟨by rfl, ?_⟩) (by assumption) ?_
  rotate_left
  · intro w hSw; try dsimp only at hSw
    go_simp
    try with_reducible rfl
  try simp only [Act.put, List.setIfInBounds_toArray, List.set_cons_zero, List.set_cons_succ]
  obtain ⟨c1x, c1y⟩ := HSR3.out.cell (i := 1) rfl
  have fr0 := HSR3.out.free (i := 1) rfl 0
  have fr1 := HSR3.out.free (i := 1) rfl 1
  have HSZ := Lib.hid (HSR3.out.set (i := 1) rfl (.slice A2 L1.length d2) (.slice A3 L2.length d3))
  obtain ⟨z0x, z0y⟩ := HSZ.out.cell (i := 0) rfl
  simp only [Nat.add_zero] at z0x z0y
  have HS4 : Hid ((fun u : World => u.cell? ⟨w.heap.size, 0, none⟩ = some (.slice Mn L1.length mn) ∧ u.cell? ⟨w.heap.size, 1, none⟩ = some (.slice Me L2.length me)) _) := Lib.hid ⟨z0x, z0y⟩
  clear z0x z0y
  refine wpAnyH_ready (rs := [7]) (by kernel_rfl) (by simp) ?_
  refine AllReadyH.cons (oper_at (r := _) rfl) (fun K hK => ?_) AllReadyH.nil
  go_simp
  refine hK.out _ _ (HS4.out) (fun _ => ?_)
  clear hK K
  try simp only [Act.put, List.setIfInBounds_toArray, List.set_cons_zero, List.set_cons_succ]
  refine wpAnyH_done (by kernel_rfl) ?_ _
  refine NoPanic.normal ?_
  go_wp2_with fail
  obtain ⟨r0, r1⟩ := HSZ.out.cell (i := 1) rfl
  have hlt : w.heap.size + 1 < w1.heap.size := heap_lt (HS.out.2 1 _ rfl)
  have hsd := HSR2.out.1.size
  have hle : w1.drew.heap.size ≤ w2.heap.size := HLE.out
  refine bodyPost_ret (v := .agg #[.slice A2 L1.length d2, .slice A3 L2.length d3]) (by simp [results, Tryd.results20, go_sem, r0, r1]) rfl ?_
  have s1 : OwnI ((w3.setCell ⟨w.heap.size + 1, 0, none⟩ (.slice A2 L1.length d2)).setCell ⟨w.heap.size + 1, 1, none⟩ (.slice A3 L2.length d3)) _ _ _ := ownsRow_setCell_below (ownsRow_setCell_below HOO.out (by show w.heap.size + 1 < w1.heap.size; exact hlt) _) (by show w.heap.size + 1 < w1.heap.size; exact hlt) _
  have s2 : OwnI ((w3.setCell ⟨w.heap.size + 1, 0, none⟩ (.slice A2 L1.length d2)).setCell ⟨w.heap.size + 1, 1, none⟩ (.slice A3 L2.length d3)) _ _ _ := ownsRow_setCell_below (ownsRow_setCell_below HO3.out (by show w.heap.size + 1 < w2.heap.size; exact Nat.lt_of_lt_of_le hlt hle) _) (by show w.heap.size + 1 < w2.heap.size; exact Nat.lt_of_lt_of_le hlt hle) _
  exact ⟨⟨_, _, rfl, s1.mono HWS.out, s2.mono (Nat.le_trans HWS.out hle)⟩, HSZ.out.1⟩

/-- own, as a contract that hands over a part -/
theorem own7_any (p : Mo) (Pn : Option Addr) (pn : Nat) (Pe : Option Addr) (pe : Nat) (u : World) (hp : PtAt u Pn Pe p) :
    Calls Tryd.prog 20 #[gval Pn p.ns.length pn Pe p.es.length pe] u fun e w' => (∃ Xn xn Xe xe, e = .returned (gval Xn p.ns.length xn Xe p.es.length xe) ∧ PtAt w' Xn Xe p) ∧ Below u.heap.size u w' := by
  refine (ownM_any p Pn pn Pe pe u hp.ns hp.es hp.ln hp.le).mono ?_
  rintro e w' ⟨⟨v, x, rfl, o1, o2⟩, hb⟩
  have r1 := isI_own o1
  have r2 := isI_own o2
  obtain ⟨A1, d1, rfl⟩ := OwnE.slice o1
  obtain ⟨A2, d2, rfl⟩ := OwnE.slice o2
  obtain ⟨B1, k1, e1, q1, _⟩ := r1
  obtain ⟨B2, k2, e2, q2, _⟩ := r2
  injection e1 with e1 _ e3
  injection e2 with e2 _ e4
  subst e1 e2 e3 e4
  exact ⟨⟨_, _, _, _, rfl, ⟨q1, q2, hp.ln, hp.le⟩⟩, hb⟩

/-- a part with where it lies -/
structure PtV where
  p : Mo
  Pn : Option Addr
  pn : Nat
  Pe : Option Addr
  pe : Nat
abbrev PtV.val (x : PtV) : Value := gval x.Pn x.p.ns.length x.pn x.Pe x.p.es.length x.pe
def PtV.len (x : PtV) : Prop := x.p.ns.length ≤ 1152921504606846976 ∧ x.p.es.length ≤ 1152921504606846976
/-- a block of parts -/
def PtsAt (u : World) (A : Option Addr) (L : List PtV) : Prop := L = [] ∨ ∃ b, A = some ⟨b, 0, none⟩ ∧ b < u.heap.size ∧ ∀ i (h : i < L.length), u.cell? ⟨b, i * 2, none⟩ = some (.slice L[i].Pn L[i].p.ns.length L[i].pn) ∧ u.cell? ⟨b, i * 2 + 1, none⟩ = some (.slice L[i].Pe L[i].p.es.length L[i].pe)
theorem PtsAt.up {u u' : World} {A : Option Addr} {L : List PtV} (h : PtsAt u A L) (hb : Below u.heap.size u u') : PtsAt u' A L := by
  rcases h with h | ⟨b, h1, h2, h3⟩
  · exact .inl h
  · exact .inr ⟨b, h1, Nat.lt_of_lt_of_le h2 hb.size, fun i hi => ⟨cell_up hb (h3 i hi).1, cell_up hb (h3 i hi).2⟩⟩
set_option maxHeartbeats 1000000 in
theorem smallC_any (x : PtV) (w : World) (hl : x.len) :
    Calls Tryd.prog 46 #[x.val] w fun e w' => e = .returned (.bool (!fewM x.p 150)) ∧ Below w.heap.size w w' := by
  have HF := Lib.hid (fun (u : World) => few7_any x.p 150 x.Pn x.pn x.Pe x.pe u hl.1 hl.2)
  have hB : Below w.heap.size w (w.alloc (.cells #[.slice x.Pn x.p.ns.length x.pn, .slice x.Pe x.p.es.length x.pe] 27)) := (Below.refl _ _).alloc (Nat.le_refl _) _
  have HB := Lib.hid hB
  have hx := heap_alloc_new w (.cells #[.slice x.Pn x.p.ns.length x.pn, .slice x.Pe x.p.es.length x.pe] 27)
  obtain ⟨c0, c1⟩ := cell2 hx
  clear hB hx
  generalize fewM x.p 150 = z at *
  go_enter Tryd.func46, Tryd.ntmps46
  go_wp2_with fail
  refine (HF.out _).mono ?_
  rintro e w2 ⟨rfl, hb2⟩
  have HB2 := Lib.hid (HB.out.trans (hb2.mono HB.out.size))
  clear hb2
  go_wp2_with fail
  go_ret
  exact ⟨rfl, HB2.out⟩
set_option maxRecDepth 100000 in
set_option maxHeartbeats 2000000 in
theorem idxP_any (L : List PtV) (A : Option Addr) (c : Nat) (w : World) (hl : L.length ≤ 10) (hL : ∀ x ∈ L, x.len) (hA : PtsAt w A L) :
    Calls Tryd.prog 76 #[.slice A L.length c, .func (.func 46) #[] #[]] w fun e w' => (∃ z : Int, e = .returned (.int .i64 z) ∧ ((z = -1 ∧ L.all (fun x => fewM x.p 150) = true) ∨ (0 ≤ z ∧ L.all (fun x => fewM x.p 150) = false))) ∧ Below w.heap.size w w' := by
  have HA := Lib.hid (fun (u : World) (hu : Below w.heap.size w u) => hA.up hu)
  have HC := Lib.hid (fun i (h : i < L.length) (u : World) => smallC_any L[i] u (hL _ (List.getElem_mem h)))
  have HY : Hid ((∀ i (h : i < L.length), fewM L[i].p 150 = true) → L.all (fun x => fewM x.p 150) = true) := Lib.hid fun h => List.all_eq_true.2 fun x hx => by
    obtain ⟨i, hi, rfl⟩ := List.mem_iff_getElem.1 hx
    exact h i hi
  have HN : Hid (∀ i (h : i < L.length), fewM L[i].p 150 = false → L.all (fun x => fewM x.p 150) = false) := Lib.hid fun i hi hf => Bool.eq_false_iff.2 fun h => by
    have := List.all_eq_true.1 h _ (List.getElem_mem hi)
    rw [hf] at this; cases this
  have hlen : (L.length : Int) ≤ 10 := by omega
  clear hL hA
  generalize L.all (fun x => fewM x.p 150) = R at *
  go_enter Tryd.func76, Tryd.ntmps76
  go_wp2_with fail
  go_loopw [8] (fun vi wr => ∃ i : Nat, i ≤ L.length ∧ vi = .int .i64 i ∧ Below w.heap.size w wr ∧ (∀ j (h : j < L.length), j < i → fewM L[j].p 150 = true)) (fun vi _ => L.length - (intOf vi).toNat)
  case atStart => exact ⟨0, Nat.zero_le _, rfl, Below.refl _ _, fun j h hj => by omega⟩
  case round =>
    obtain ⟨i, hi, rfl, hb, hs⟩ := hrel
    have HB := Lib.hid hb
    have HS := Lib.hid hs
    clear hs
    by_cases hlt : i < L.length
    · obtain ⟨b, hAb, hbl, hcell⟩ : ∃ b, A = some ⟨b, 0, none⟩ ∧ b < wr.heap.size ∧ ∀ i (h : i < L.length), wr.cell? ⟨b, i * 2, none⟩ = some (.slice L[i].Pn L[i].p.ns.length L[i].pn) ∧ wr.cell? ⟨b, i * 2 + 1, none⟩ = some (.slice L[i].Pe L[i].p.es.length L[i].pe) := by
        rcases HA.out _ hb with h | h
        · rw [h] at hlt; simp at hlt
        · exact h
      obtain ⟨k0, k1⟩ := hcell i hlt
      subst hAb
      have HCI := Lib.hid (HC.out i hlt wr)
      have HNI := Lib.hid (HN.out i hlt)
      have HSI : Hid (fewM L[i].p 150 = true → ∀ j (h : j < L.length), j < i + 1 → fewM L[j].p 150 = true) := Lib.hid fun h j hj hji => by
        by_cases e : j = i
        · subst e; exact h
        · exact HS.out j hj (by omega)
      have q0 : (0 : Int) ≤ (i : Int) := by omega
      have q1 : (i : Int) < (L.length : Int) := by omega
      have q2 : ((i : Int)).toNat = i := by omega
      have HLT := Lib.hid hlt
      have HM : Hid (L.length - ((i : Int) + 1).toNat < L.length - ((i : Int)).toNat) := Lib.hid (by omega)
      have hsz := hb.size
      generalize L[i] = x at *
      generalize fewM x.p 150 = z at *
      clear hb hcell hlt
      go_wp2_with fail
      refine HCI.out.mono ?_
      rintro e w2 ⟨rfl, hb2⟩
      have HB2 := Lib.hid (HB.out.trans (hb2.mono hsz))
      clear hb2
      cases z
      case false =>
        have HR := Lib.hid (HNI.out rfl)
        clear HNI HSI HCI
        go_wp2_with fail
        go_ret
        exact ⟨⟨_, rfl, .inr ⟨by omega, HR.out⟩⟩, HB2.out⟩
      case true =>
        have HX := Lib.hid (HSI.out rfl)
        clear HNI HSI HCI
        go_wp2_with fail
        go_roundw
        case rel => exact ⟨i + 1, HLT.out, by go_num, HB2.out, HX.out⟩
        case measure => exact HM.out
    · have HR := Lib.hid (HY.out fun j h => HS.out j h (by omega))
      clear hb
      go_wp2_with fail
      go_ret
      exact ⟨⟨_, rfl, .inl ⟨rfl, HR.out⟩⟩, HB.out⟩

end Go.Proofs.YthnhacncnhknnaaDoor

/-
  Parts of graphs, the laws: small, and small of an arrow. Printed by mkl2.py.
-/
namespace Go.Proofs.YthnhacncnhknnaaDoor
open Go.RowKit Go.Shelf

set_option maxHeartbeats 1000000 in
theorem contP_any (L : List PtV) (A : Option Addr) (c : Nat) (w : World) (hl : L.length ≤ 10) (hL : ∀ x ∈ L, x.len) (hA : PtsAt w A L) :
    Calls Tryd.prog 45 #[.slice A L.length c, .func (.func 46) #[] #[]] w fun e w' => e = .returned (.bool (!L.all (fun x => fewM x.p 150))) ∧ Below w.heap.size w w' := by
  have HI := Lib.hid (idxP_any L A c w hl hL hA)
  clear hL hA
  generalize L.all (fun x => fewM x.p 150) = R at *
  go_enter Tryd.func45, Tryd.ntmps45
  go_wp2_with fail
  refine HI.out.mono ?_
  rintro e w2 ⟨⟨z, rfl, hz⟩, hb2⟩
  have HB2 := Lib.hid hb2
  clear hb2
  rcases hz with ⟨rfl, rfl⟩ | ⟨hz, rfl⟩
  · go_wp2_with fail
    go_ret
    exact ⟨rfl, HB2.out⟩
  · go_wp2_with fail
    go_ret
    exact ⟨rfl, HB2.out⟩
set_option maxRecDepth 100000 in
set_option maxHeartbeats 2000000 in
theorem small7_any (g : Gr) (L : List PtV) (An : Option Addr) (cn : Nat) (Ae : Option Addr) (ce : Nat) (A : Option Addr) (c : Nat) (w : World) (hl : L.length ≤ 10) (hg : GrAt w An cn Ae ce g) (hL : ∀ x ∈ L, x.len) (hA : PtsAt w A L) :
    Calls Tryd.prog 11 #[gval An g.ns.length cn Ae g.es.length ce, .slice A L.length c] w fun e w' => e = .returned (.bool (fewB g && L.all (fun x => fewM x.p 150))) ∧ Below w.heap.size w w' := by
  have hS0 : SR w _ (w.alloc (.cells #[.slice An g.ns.length cn, .slice Ae g.es.length ce] 25)) := SR.push (SR.nil w) rfl _ _ _
  have HF := Lib.hid (fun (u : World) (hu : Below w.heap.size w u) => few_any g An cn Ae ce u (hg.up hu))
  have HC := Lib.hid (fun (u : World) (hu : Below w.heap.size w u) => contP_any L A c u hl hL (hA.up hu))
  have HS0 := Lib.hid hS0
  clear hg hL hA hS0
  generalize L.all (fun x => fewM x.p 150) = R at *
  generalize fewB g = z at *
  go_enter Tryd.func11, Tryd.ntmps11
  obtain ⟨c0, c1⟩ := HS0.out.cell (i := 0) rfl
  simp only [Nat.add_zero] at c0 c1
  go_wp2_with fail
  refine (HF.out _ HS0.out.1).mono ?_
  rintro e w2 ⟨rfl, hb2⟩
  have HB2 := Lib.hid (HS0.out.1.trans (hb2.mono HS0.out.1.size))
  clear hb2 HS0 HF c0 c1
  cases z
  · go_wp2_with fail
    go_ret
    exact ⟨rfl, HB2.out⟩
  · go_wp2_with fail
    refine (HC.out _ HB2.out).mono ?_
    rintro e w3 ⟨rfl, hb3⟩
    have HB3 := Lib.hid (HB2.out.trans (hb3.mono HB2.out.size))
    clear hb3
    cases R
    · go_wp2_with fail
      go_ret
      exact ⟨rfl, HB3.out⟩
    · go_wp2_with fail
      go_ret
      exact ⟨rfl, HB3.out⟩

/-- an arrow in memory -/
structure Aw where
  a : Gr
  b : Gr
  m : Mo
  An : Option Addr
  cn : Nat
  Ae : Option Addr
  ce : Nat
  Bn : Option Addr
  dn : Nat
  Be : Option Addr
  de : Nat
  Mn : Option Addr
  mn : Nat
  Me : Option Addr
  me : Nat
abbrev Aw.val (x : Aw) : Value := .agg #[.slice x.An x.a.ns.length x.cn, .slice x.Ae x.a.es.length x.ce, .slice x.Bn x.b.ns.length x.dn, .slice x.Be x.b.es.length x.de, .slice x.Mn x.m.ns.length x.mn, .slice x.Me x.m.es.length x.me]
structure AwAt (w : World) (x : Aw) : Prop where
  ga : GrAt w x.An x.cn x.Ae x.ce x.a
  gb : GrAt w x.Bn x.dn x.Be x.de x.b
  m1 : Ints w w.heap.size x.Mn x.m.ns
  m2 : Ints w w.heap.size x.Me x.m.es
  l1 : x.m.ns.length ≤ 1152921504606846976
  l2 : x.m.es.length ≤ 1152921504606846976
theorem AwAt.up {w w' : World} {x : Aw} (h : AwAt w x) (hb : Below w.heap.size w w') : AwAt w' x := ⟨h.ga.up hb, h.gb.up hb, Reads.up h.m1 hb, Reads.up h.m2 hb, h.l1, h.l2⟩
def smallA (x : Aw) : Bool := fewB x.a && fewB x.b && fewM x.m 150
set_option maxRecDepth 100000 in
set_option maxHeartbeats 2000000 in
theorem smallA_any (x : Aw) (w : World) (hx : AwAt w x) :
    Calls Tryd.prog 24 #[x.val] w fun e w' => e = .returned (.bool (smallA x)) ∧ Below w.heap.size w w' := by
  have hS0 : SV w _ (w.alloc (.cells #[.slice x.An x.a.ns.length x.cn, .slice x.Ae x.a.es.length x.ce, .slice x.Bn x.b.ns.length x.dn, .slice x.Be x.b.es.length x.de, .slice x.Mn x.m.ns.length x.mn, .slice x.Me x.m.es.length x.me] 44)) := SV.push (SV.nil w) rfl [.slice x.An x.a.ns.length x.cn, .slice x.Ae x.a.es.length x.ce, .slice x.Bn x.b.ns.length x.dn, .slice x.Be x.b.es.length x.de, .slice x.Mn x.m.ns.length x.mn, .slice x.Me x.m.es.length x.me] 44
  have H1 := Lib.hid (fun (u : World) (hu : Below w.heap.size w u) => few_any x.a x.An x.cn x.Ae x.ce u (hx.ga.up hu))
  have H2 := Lib.hid (fun (u : World) (hu : Below w.heap.size w u) => few_any x.b x.Bn x.dn x.Be x.de u (hx.gb.up hu))
  have H3 := Lib.hid (fun (u : World) => fewM_any x.m 150 x.Mn x.mn x.Me x.me u hx.l1 hx.l2)
  have HX : Hid (smallA x = (fewB x.a && fewB x.b && fewM x.m 150)) := Lib.hid rfl
  have HS0 := Lib.hid hS0
  clear hx hS0
  generalize smallA x = R at *
  generalize fewB x.a = z1 at *
  generalize fewB x.b = z2 at *
  generalize fewM x.m 150 = z3 at *
  obtain ⟨a, b, m, An, cn, Ae, ce, Bn, dn, Be, de, Mn, mn, Me, me⟩ := x
  dsimp only [Aw.val] at *
  go_enter Tryd.func24, Tryd.ntmps24
  have c0 := HS0.out.cell (i := 0) (j := 0) rfl rfl
  have c1 := HS0.out.cell (i := 0) (j := 1) rfl rfl
  have c2 := HS0.out.cell (i := 0) (j := 2) rfl rfl
  have c3 := HS0.out.cell (i := 0) (j := 3) rfl rfl
  have c4 := HS0.out.cell (i := 0) (j := 4) rfl rfl
  have c5 := HS0.out.cell (i := 0) (j := 5) rfl rfl
  simp only [Nat.add_zero] at c0 c1 c2 c3 c4 c5
  go_wp2_with fail
  refine (H1.out _ HS0.out.1).mono ?_
  rintro e w2 ⟨rfl, hb2⟩
  have HS2 := Lib.hid (HS0.out.up hb2)
  clear hb2 HS0 H1 c0 c1 c2 c3 c4 c5
  cases z1
  case false =>
    have HR := Lib.hid (show R = false by rw [HX.out]; rfl)
    go_wp2_with fail
    go_ret
    exact ⟨ret_bool (by rw [HR.out]), HS2.out.1⟩
  case true =>
    have c0 := HS2.out.cell (i := 0) (j := 0) rfl rfl
    have c1 := HS2.out.cell (i := 0) (j := 1) rfl rfl
    have c2 := HS2.out.cell (i := 0) (j := 2) rfl rfl
    have c3 := HS2.out.cell (i := 0) (j := 3) rfl rfl
    have c4 := HS2.out.cell (i := 0) (j := 4) rfl rfl
    have c5 := HS2.out.cell (i := 0) (j := 5) rfl rfl
    simp only [Nat.add_zero] at c0 c1 c2 c3 c4 c5
    go_wp2_with fail
    refine (H2.out _ HS2.out.1).mono ?_
    rintro e w3 ⟨rfl, hb3⟩
    have HS3 := Lib.hid (HS2.out.up hb3)
    clear hb3 HS2 H2 c0 c1 c2 c3 c4 c5
    cases z2
    case false =>
      have HR := Lib.hid (show R = false by rw [HX.out]; rfl)
      go_wp2_with fail
      go_ret
      exact ⟨ret_bool (by rw [HR.out]), HS3.out.1⟩
    case true =>
      have c0 := HS3.out.cell (i := 0) (j := 0) rfl rfl
      have c1 := HS3.out.cell (i := 0) (j := 1) rfl rfl
      have c2 := HS3.out.cell (i := 0) (j := 2) rfl rfl
      have c3 := HS3.out.cell (i := 0) (j := 3) rfl rfl
      have c4 := HS3.out.cell (i := 0) (j := 4) rfl rfl
      have c5 := HS3.out.cell (i := 0) (j := 5) rfl rfl
      simp only [Nat.add_zero] at c0 c1 c2 c3 c4 c5
      go_wp2_with fail
      refine (H3.out _).mono ?_
      rintro e w4 ⟨rfl, hb4⟩
      have HB4 := Lib.hid (HS3.out.1.trans (hb4.mono HS3.out.1.size))
      have HR := Lib.hid (show R = z3 by rw [HX.out]; rfl)
      clear hb4 HS3 c0 c1 c2 c3 c4 c5
      go_wp2_with fail
      go_ret
      exact ⟨ret_bool (by rw [HR.out]), HB4.out⟩

end Go.Proofs.YthnhacncnhknnaaDoor

/-
  Parts of graphs, the laws: line and awake, over what Close, Boundary and All promise. Printed by mkl3.py.
-/
namespace Go.Proofs.YthnhacncnhknnaaDoor
open Go.RowKit Go.Shelf

theorem reads_lit7 {α : Type} {E : El α} {t : TypeId} {w : World} {g B : Nat} {cs : Array Value} {xs : List α} (h : w.heap[g]? = some (.cells cs t (0, 0))) (hc : cs.toList = cellsE E xs) (hB : g < B) : Reads E w B (some ⟨g, 0, none⟩) xs :=
  .inr ⟨g, 0, rfl, hB, fun i x hx j u hu => by
    have := cellsE_get E hx hu
    rw [← hc, Array.getElem?_toList] at this
    rw [Nat.zero_add, cell_of_row _ _ _ _ _ _ h]
    exact this⟩
theorem gr_lit7 {u : World} {a b : Nat} {ca cb : Array Value} {xs : List Int} {ys : List Ed} {n m : Nat} (hn : n = xs.length) (hm : m = ys.length) (h1 : u.heap[a]? = some (.cells ca 3 (0, 0))) (h2 : u.heap[b]? = some (.cells cb 73 (0, 0))) (e1 : ca.toList = cellsE EInt xs) (e2 : cb.toList = cellsE EEd ys) (l1 : xs.length ≤ 100) (l2 : ys.length ≤ 100) :
    GrAt u (some ⟨a, 0, none⟩) n (some ⟨b, 0, none⟩) m ⟨xs, ys⟩ :=
  ⟨reads_lit7 h1 e1 (heap_lt h1), reads_lit7 h2 e2 (heap_lt h2), ⟨by subst hn; exact Nat.le_refl _, by subst hn; unfold maxLen; omega⟩, ⟨by subst hm; exact Nat.le_refl _, by subst hm; unfold maxLen; omega⟩⟩
def lineG : Gr := ⟨[0, 0, 0], [⟨0, 0, 1⟩, ⟨0, 1, 2⟩]⟩
theorem line_ce : closeE lineG [] [0] = 0 := by decide +kernel
theorem line_cp : closeP lineG [] [0] = ⟨[0, 1], [0]⟩ := by decide +kernel
theorem line_pe : partE lineG ⟨[0, 1], [0]⟩ = 0 := by decide +kernel
theorem line_bd : bndR lineG ⟨[0, 1], [0]⟩ = [1] := by decide +kernel
theorem line_ae : pAllE lineG = 0 := by decide +kernel
theorem line_al : (pAllR lineG).length = 13 := by decide +kernel
theorem gat7_alloc (w : World) (o : Obj) (i : Nat) : (w.alloc o).heap[i]? = if i = w.heap.size then some o else w.heap[i]? := at_alloc w o i
set_option maxRecDepth 100000 in
set_option maxHeartbeats 2000000 in
theorem line7_any (w : World) : Calls Tryd.prog 42 #[] w fun e w' => (∃ A B, e = .returned (gval A 3 3 B 2 2) ∧ GrAt w' A 3 B 2 lineG) ∧ Below w.heap.size w w' := by
  go_enter Tryd.func42, Tryd.ntmps42
  go_wp2_with fail
  refine bodyPost_ret (v := gval (some ⟨w.heap.size + 1, 0, none⟩) 3 3 (some ⟨w.heap.size + 1 + 1, 0, none⟩) 2 2) (by simp [results, Tryd.results42, go_sem]) rfl ?_
  have at1 : ∀ (o0 o1 o2 : Obj), (((w.alloc o0).alloc o1).alloc o2).heap[w.heap.size + 1]? = some o1 := fun _ _ _ => by
    simp only [at_alloc, size_alloc]; repeat (first | rfl | (split; · (first | rfl | omega)))
  have at2 : ∀ (o0 o1 o2 : Obj), (((w.alloc o0).alloc o1).alloc o2).heap[w.heap.size + 1 + 1]? = some o2 := fun _ _ _ => by
    simp only [at_alloc, size_alloc]; repeat (first | rfl | (split; · (first | rfl | omega)))
  exact ⟨⟨_, _, rfl, gr_lit7 rfl rfl (at1 _ _ _) (at2 _ _ _) rfl rfl (by decide) (by decide)⟩, ((((Below.refl _ _).alloc (Nat.le_refl _) _).alloc (by simp) _).alloc (by simp; omega) _)⟩

set_option maxRecDepth 100000 in
set_option maxHeartbeats 4000000 in
theorem awake7 (hC : CloseC 12) (hB : BndC 35) (hA : AllC 37) (w : World) (hT : TabV w) :
    Calls Tryd.prog 10 #[] w fun e w' => e = .returned (.bool true) ∧ Below w.heap.size w w' := by
  have HLI := Lib.hid line7_any
  have HTW := Lib.hid hT
  clear hT
  go_enter Tryd.func10, Tryd.ntmps10
  go_wp2_with fail
  refine (HLI.out _).mono ?_
  rintro e w1 ⟨⟨A0, B0, rfl, hg⟩, hb⟩
  have HG := Lib.hid hg
  have HB1 := Lib.hid hb
  clear hg hb
  have hb2 : Below w1.heap.size w1 (w1.alloc (.cells #[.int .i64 0] 3)) := (Below.refl _ _).alloc (Nat.le_refl _) _
  have HCC := Lib.hid (show GivesM 12 #[gval A0 3 3 B0 2 2, .slice none 0 0, .slice (some ⟨w1.heap.size, 0, none⟩) 1 1] 0 ⟨[0, 1], [0]⟩ (w1.alloc (.cells #[.int .i64 0] 3)) from by
    have h := hC lineG [] [0] A0 3 B0 2 none 0 (some ⟨w1.heap.size, 0, none⟩) 1 (w1.alloc (.cells #[.int .i64 0] 3)) (HG.out.up hb2) (.inl rfl) (reads_lit7 (heap_alloc_new _ _) rfl (by simp)) (by simp) (by simp)
    rw [line_ce, line_cp] at h
    exact h)
  have HB2 := Lib.hid (HB1.out.trans (hb2.mono HB1.out.size))
  clear hb2
  go_wp2_with fail
  refine HCC.out.mono ?_
  rintro e w2 ⟨⟨X1, x1, Y1, y1, rfl, r1, r2, _, _⟩, hb3⟩
  have HB3 := Lib.hid (HB2.out.trans (hb3.mono HB2.out.size))
  have HP := Lib.hid (show PtAt w2 X1 Y1 ⟨[0, 1], [0]⟩ from ⟨r1, r2, by simp, by simp⟩)
  clear r1 r2 hb3 HB2 HB1 HCC HG
  go_upto_region 2 with fail
  have hb : Below w2.heap.size w2 (w2.alloc (.cells #[.slice X1 2 x1, .slice Y1 1 y1] 27)) := (Below.refl _ _).alloc (Nat.le_refl _) _
  have HBX : Hid (BX w2.heap.size (.slice X1 2 x1) (.slice Y1 1 y1) 27 (w2.alloc (.cells #[.slice X1 2 x1, .slice Y1 1 y1] 27))) := Lib.hid (heap_alloc_new _ _)
  have HP4 := Lib.hid (HP.out.up hb)
  have HB4 := Lib.hid (HB3.out.trans (hb.mono HB3.out.size))
  clear hb HP HB3
  simp only [List.length_cons, List.length_nil, Nat.zero_add] at *
  generalize w2.alloc (.cells #[.slice X1 2 x1, .slice Y1 1 y1] 27) = w4 at *
  generalize w2.heap.size = g1 at *
  have HM : Hid (∀ u, Below w4.drew.heap.size w4.drew u → (fun u : World => u.cell? ⟨g1, 0, none⟩ = some (.slice X1 2 x1) ∧ u.cell? ⟨g1, 1, none⟩ = some (.slice Y1 1 y1)) u) := Lib.hid fun u hu => ⟨cell_up hu HBX.out.cells.1, cell_up hu HBX.out.cells.2⟩
  have HVD := Lib.hid (below_d w4)
  have WD0 := Lib.hid (Below.refl w4.drew.heap.size w4.drew)
  go_cut [3, 4] (fun x y wc => ∃ X2 x2, x = .slice X2 1 x2 ∧ y = .int .i64 0 ∧ Ints wc wc.heap.size X2 [1] ∧ Below w4.heap.size w4 wc)
  case first =>
    go_wp2_with fail
    refine wp_region_noPanic ?_
    refine wp_region_held_drew (S := (fun u : World => u.cell? ⟨g1, 0, none⟩ = some (.slice X1 2 x1) ∧ u.cell? ⟨g1, 1, none⟩ = some (.slice Y1 1 y1))) (by kernel_rfl) (HM.out _ WD0.out) (fun hHeld => ?_)
    generalize w4.drew = wd at *
    refine wpAnyH_take (i := 1) (v := ?_) (oper_at (r := _) rfl) (by kernel_rfl) (by kernel_rfl) (by kernel_rfl) (fun _ _ _ h => h) (Or.inl ⟨by rfl, ?_⟩) (by assumption) ?_
    rotate_left
    · intro w hSw; try dsimp only at hSw
      go_simp
      try with_reducible rfl
    try simp only [Act.put, List.setIfInBounds_toArray, List.set_cons_zero, List.set_cons_succ]
    refine wpAnyH_ready (rs := [0]) (by kernel_rfl) (by simp) ?_
    refine AllReadyH.cons (oper_at (r := _) rfl) (fun K hK => ?_) AllReadyH.nil
    go_simp
    refine (HLI.out _).mono ?_
    rintro e x2 ⟨⟨A3, B3, rfl, hg⟩, hb⟩
    have HG := Lib.hid hg
    have HB5 := Lib.hid hb
    clear hg hb
    have HQB := Lib.hid (show GivesI 35 #[gval A3 3 3 B3 2 2, gval X1 2 x1 Y1 1 y1] 0 [1] x2 from by
      have h := hB lineG ⟨[0, 1], [0]⟩ A3 3 B3 2 X1 x1 Y1 y1 x2 HG.out (HP4.out.up (HVD.out.trans (HB5.out.mono HVD.out.size)))
      rw [line_pe, line_bd] at h
      exact h)
    go_wp2_with fail
    refine hK.out _ _ (HM.out _ HB5.out) (fun _ => ?_)
    clear hK K
    try simp only [Act.put, List.setIfInBounds_toArray, List.set_cons_zero, List.set_cons_succ]
    refine wpAnyH_ready (rs := [2]) (by kernel_rfl) (by simp) ?_
    refine AllReadyH.cons (oper_at (r := _) rfl) (fun K hK => ?_) AllReadyH.nil
    go_simp
    refine HQB.out.mono ?_
    rintro e x3 ⟨⟨X2, x2', rfl, r1, _⟩, hb⟩
    have HR1 := Lib.hid r1
    have HB6 := Lib.hid (HB5.out.trans (hb.mono HB5.out.size))
    clear r1 hb
    go_wp2_with fail
    refine hK.out _ _ (HM.out _ HB6.out) (fun _ => ?_)
    clear hK K
    try simp only [Act.put, List.setIfInBounds_toArray, List.set_cons_zero, List.set_cons_succ]
    refine wpAnyH_take (i := 3) (v := ?_) (oper_at (r := _) rfl) (by kernel_rfl) (by kernel_rfl) (by kernel_rfl) (fun _ _ _ h => h) (Or.inl ⟨by rfl, ?_⟩) (by assumption) ?_
    rotate_left
    · intro w hSw; try dsimp only at hSw
      go_simp
      try with_reducible rfl
    try simp only [Act.put, List.setIfInBounds_toArray, List.set_cons_zero, List.set_cons_succ]
    refine wpAnyH_take (i := 4) (v := ?_) (oper_at (r := _) rfl) (by kernel_rfl) (by kernel_rfl) (by kernel_rfl) (fun _ _ _ h => h) (Or.inl ⟨by rfl, ?_⟩) (by assumption) ?_
    rotate_left
    · intro w hSw; try dsimp only at hSw
      go_simp
      try with_reducible rfl
    try simp only [Act.put, List.setIfInBounds_toArray, List.set_cons_zero, List.set_cons_succ]
    refine wpAnyH_take (i := 5) (v := ?_) (oper_at (r := _) rfl) (by kernel_rfl) (by kernel_rfl) (by kernel_rfl) (fun _ _ _ h => h) (Or.inl ⟨by rfl, ?_⟩) (by assumption) ?_
    rotate_left
    · intro w hSw; try dsimp only at hSw
      go_simp
      try with_reducible rfl
    try simp only [Act.put, List.setIfInBounds_toArray, List.set_cons_zero, List.set_cons_succ]
    refine wpAnyH_take (i := 6) (v := ?_) (oper_at (r := _) rfl) (by kernel_rfl) (by kernel_rfl) (by kernel_rfl) (fun _ _ _ h => h) (Or.inl ⟨by rfl, ?_⟩) (by assumption) ?_
    rotate_left
    · intro w hSw; try dsimp only at hSw
      go_simp
      try with_reducible rfl
    try simp only [Act.put, List.setIfInBounds_toArray, List.set_cons_zero, List.set_cons_succ]
    refine wpAnyH_take (i := 7) (v := ?_) (oper_at (r := _) rfl) (by kernel_rfl) (by kernel_rfl) (by kernel_rfl) (fun _ _ _ h => h) (Or.inl ⟨by rfl, ?_⟩) (by assumption) ?_
    rotate_left
    · intro w hSw; try dsimp only at hSw
      go_simp
      try with_reducible rfl
    try simp only [Act.put, List.setIfInBounds_toArray, List.set_cons_zero, List.set_cons_succ]
    refine wpAnyH_done (by kernel_rfl) ?_ _
    refine NoPanic.normal ?_
    go_wp2_with fail
    go_meet
    exact ⟨X2, x2', rfl, rfl, HR1.out, HVD.out.trans (HB6.out.mono HVD.out.size)⟩
  case rest =>
    obtain ⟨X2, x2, rfl, rfl, r1, hb⟩ := hcut
    have HR1 := Lib.hid r1
    have HB7 := Lib.hid hb
    clear r1 hb HM WD0 HVD
    go_wp2_with fail
    refine (HLI.out _).mono ?_
    rintro e w5 ⟨⟨A5, B5, rfl, hg⟩, hb⟩
    have HG := Lib.hid hg
    have HB8 := Lib.hid (HB7.out.trans (hb.mono HB7.out.size))
    have HR2 := Lib.hid (Reads.up HR1.out hb)
    clear hg hb HR1 HB7
    have HQA := Lib.hid (show Calls Tryd.prog 37 #[gval A5 3 3 B5 2 2] w5 fun e w' => (∃ A c, e = .returned (.tuple #[.slice A 13 c, .int .i64 0])) ∧ Below w5.heap.size w5 w' from by
      have h := hA lineG A5 3 B5 2 w5 (TabV.up HTW.out (HB4.out.trans (HB8.out.mono HB4.out.size))) HG.out
      rw [line_ae] at h
      refine h.mono ?_
      rintro e w' ⟨⟨v, rfl, A, c, rfl, _⟩, hb⟩
      exact ⟨⟨A, c, by rw [line_al]; rfl⟩, hb⟩)
    go_wp2_with fail
    refine HQA.out.mono ?_
    rintro e w6 ⟨⟨A6, c6, rfl⟩, hb⟩
    have HB9 := Lib.hid (HB8.out.trans (hb.mono HB8.out.size))
    have HR3 := Lib.hid (Reads.up HR2.out hb)
    have HP9 := Lib.hid (HP4.out.up HB9.out)
    have HX9 := Lib.hid (HBX.out.up HB9.out)
    have HBW := Lib.hid (HB4.out.trans (HB9.out.mono HB4.out.size))
    clear hb HB8 HR2 HP4 HBX HB4 HG HQA HB9
    obtain ⟨c0, c1⟩ := HX9.out.cells
    obtain ⟨W7, hW7⟩ : ∃ W7, W7 = (w6.alloc (.cells #[.int .i64 0, .int .i64 1] 3)).alloc (.cells #[.int .i64 0] 3) := ⟨_, rfl⟩
    have hb7 : Below w6.heap.size w6 W7 := by rw [hW7]; exact ((Below.refl _ _).alloc (Nat.le_refl _) _).alloc (by simp) _
    have HSM := Lib.hid (show Calls Tryd.prog 16 #[gval X1 2 x1 Y1 1 y1, gval (some ⟨w6.heap.size, 0, none⟩) 2 2 (some ⟨w6.heap.size + 1, 0, none⟩) 1 1] W7 _ from by
      have q1 : Ints W7 W7.heap.size (some ⟨w6.heap.size, 0, none⟩) [0, 1] := by rw [hW7]; exact reads_lit7 (heap_two _ _ _) rfl (by simp; omega)
      have q2 : Ints W7 W7.heap.size (some ⟨w6.heap.size + 1, 0, none⟩) [0] := by rw [hW7]; exact reads_lit7 (heap_two' _ _ _) rfl (by simp)
      have h := same7_any ⟨[0, 1], [0]⟩ ⟨[0, 1], [0]⟩ X1 x1 Y1 y1 (some ⟨w6.heap.size, 0, none⟩) 2 (some ⟨w6.heap.size + 1, 0, none⟩) 1 W7 (by unfold maxLen; simp) (by unfold maxLen; simp) (Reads.up HP9.out.ns hb7) (Reads.up HP9.out.es hb7) q1 q2
      rw [decide_eq_true rfl] at h
      exact h)
    have HR4 := Lib.hid (Reads.up HR3.out hb7)
    have HBW7 := Lib.hid (HBW.out.trans (hb7.mono HBW.out.size))
    go_wp2_with fail
    rw [← hW7]
    clear hW7 hb7 HR3 HP9 HBW c0 c1 HX9
    refine HSM.out.mono ?_
    rintro e w8 ⟨rfl, hb⟩
    have HR5 := Lib.hid (Reads.up HR4.out hb)
    have HBW8 := Lib.hid (HBW7.out.trans (hb.mono HBW7.out.size))
    clear hb HR4 HBW7 HSM
    have hb9 : Below w8.heap.size w8 (w8.alloc (.cells #[.int .i64 1] 3)) := (Below.refl _ _).alloc (Nat.le_refl _) _
    have HEQ := Lib.hid (show Calls Tryd.prog 43 #[.slice X2 1 x2, .slice (some ⟨w8.heap.size, 0, none⟩) 1 1] (w8.alloc (.cells #[.int .i64 1] 3)) _ from by
      have h := equal_any [1] [1] X2 (some ⟨w8.heap.size, 0, none⟩) _ _ x2 1 (w8.alloc (.cells #[.int .i64 1] 3)) (by unfold maxLen; simp) (Reads.up HR5.out hb9) (reads_lit7 (heap_alloc_new _ _) rfl (Nat.lt_succ_self _))
      rw [decide_eq_true rfl] at h
      exact h)
    have HBW9 := Lib.hid (HBW8.out.trans (hb9.mono HBW8.out.size))
    clear hb9 HR5
    go_wp2_with fail
    refine HEQ.out.mono ?_
    rintro e w9 ⟨rfl, hb⟩
    have HBZ := Lib.hid (HBW9.out.trans (hb.mono HBW9.out.size))
    clear hb
    go_wp2_with fail
    go_ret
    exact ⟨rfl, HBZ.out⟩

end Go.Proofs.YthnhacncnhknnaaDoor
