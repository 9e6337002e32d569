import Derived.Test.YtaeelanbkdkppaaDoorV01
import Derived.RangeFuncNested
import Derived.RangeFuncBound
import Derived.RangeFuncCalls
import Derived.RangeFuncLeaves
import Derived.OwnWalkIn
import Derived.Laws.StructEq
import Derived.Deep.MidRow
import Derived.Laws.Rows
import Derived.Shelf.Abstract
import Derived.Shelf.RegionOpen
import Derived.TacticsInMore
import Derived.LoopNIn
import Derived.LoopIn
import Derived.Sort.CutIn
import Derived.Deep.RegionHeld3
import Derived.Deep.AppendLies
/-
  All morphisms between two graphs, ascending, as plain data. (Work ahead for stage 6.)
-/
namespace Go.Proofs.YtaeelanbkdkppaaDoor

def want (a : Gr) (l : List Int) (j : Nat) : Ed := ⟨(a.es.getD j default).ty, l.getD (a.es.getD j default).fr.toNat 0, l.getD (a.es.getD j default).tq.toNat 0⟩
/-- the edges' images from the place es.length on -/
def edR (a b : Gr) (l : List Int) : Nat → List Int → List Mo
  | 0, es => [⟨l, es⟩]
  | d + 1, es => (List.range b.es.length).flatMap fun k => if b.es.getD k default = want a l es.length then edR a b l d (es ++ [(k : Int)]) else []
/-- each edge whose later end is the last node has an image -/
def fitsP (a b : Gr) (l : List Int) : Prop := ∀ j, j < a.es.length → max (a.es.getD j default).fr (a.es.getD j default).tq = (l.length : Int) - 1 → ∃ k, k < b.es.length ∧ b.es.getD k default = want a l j
noncomputable instance (a b : Gr) (l : List Int) : Decidable (fitsP a b l) := Classical.propDecidable _
noncomputable def ndR (a b : Gr) : Nat → List Int → List Mo
  | 0, l => edR a b l a.es.length []
  | d + 1, l => (List.range b.ns.length).flatMap fun k => if b.ns.getD k 0 = a.ns.getD l.length 0 ∧ fitsP a b (l ++ [(k : Int)]) then ndR a b d (l ++ [(k : Int)]) else []
noncomputable def allR (a b : Gr) : List Mo := ndR a b a.ns.length []

def EdAt (a b : Gr) (l es : List Int) (j : Nat) : Prop := (0 ≤ es.getD j 0 ∧ es.getD j 0 < b.es.length) ∧ b.es.getD (es.getD j 0).toNat default = want a l j
def NdAt (a b : Gr) (l : List Int) (j : Nat) : Prop := (0 ≤ l.getD j 0 ∧ l.getD j 0 < b.ns.length) ∧ b.ns.getD (l.getD j 0).toNat 0 = a.ns.getD j 0
theorem getD_app {l : List Int} {x : Int} : (l ++ [x]).getD l.length 0 = x := by
  rw [List.getD_eq_getElem?_getD, List.getElem?_append_right (Nat.le_refl _), Nat.sub_self]; rfl
theorem getD_pre {l t : List Int} {i : Nat} (h : i < l.length) : (l ++ t).getD i 0 = l.getD i 0 := by
  rw [List.getD_eq_getElem?_getD, List.getElem?_append_left h, ← List.getD_eq_getElem?_getD]
theorem pre_next {l m : List Int} (h : l <+: m) (hl : l.length < m.length) : l ++ [m.getD l.length 0] <+: m := by
  obtain ⟨t, rfl⟩ := h
  cases t with
  | nil => simp at hl
  | cons x t =>
    have e : (l ++ x :: t).getD l.length 0 = x := by
      rw [List.getD_eq_getElem?_getD, List.getElem?_append_right (Nat.le_refl _), Nat.sub_self]; rfl
    rw [e]
    exact ⟨t, by simp⟩
theorem mem_edR {a b : Gr} {l : List Int} {d : Nat} {es : List Int} {m : Mo} (hd : es.length + d = a.es.length) :
    m ∈ edR a b l d es ↔ m.ns = l ∧ es <+: m.es ∧ m.es.length = a.es.length ∧ ∀ j, es.length ≤ j → j < a.es.length → EdAt a b l m.es j := by
  induction d generalizing es with
  | zero =>
    simp only [edR, List.mem_singleton]
    constructor
    · rintro rfl
      exact ⟨rfl, List.prefix_refl _, by simpa using hd, fun j h1 h2 => by omega⟩
    · rintro ⟨h1, h2, h3, _⟩
      have := List.IsPrefix.eq_of_length h2 (by omega)
      obtain ⟨x, y⟩ := m
      simp only at h1 this
      rw [h1, this]
  | succ d ih =>
    simp only [edR, List.mem_flatMap, List.mem_range]
    constructor
    · rintro ⟨k, hk, hm⟩
      split at hm
      · rename_i hw
        obtain ⟨h1, h2, h3, h4⟩ := (ih (by simp; omega)).1 hm
        refine ⟨h1, (List.prefix_append es [(k : Int)]).trans h2, h3, fun j hj hj2 => ?_⟩
        by_cases e : j = es.length
        · subst e
          obtain ⟨t, ht⟩ := h2
          have he : m.es.getD es.length 0 = (k : Int) := by rw [← ht, getD_pre (by simp), getD_app]
          unfold EdAt
          rw [he, Int.toNat_natCast]
          exact ⟨by omega, hw⟩
        · exact h4 j (by simp; omega) hj2
      · cases hm
    · rintro ⟨h1, h2, h3, h4⟩
      obtain ⟨⟨g1, g2⟩, g3⟩ := h4 es.length (Nat.le_refl _) (by omega)
      refine ⟨(m.es.getD es.length 0).toNat, by omega, ?_⟩
      rw [if_pos g3]
      have hc : (((m.es.getD es.length 0).toNat : Nat) : Int) = m.es.getD es.length 0 := by omega
      rw [hc]
      exact (ih (by simp; omega)).2 ⟨h1, pre_next h2 (by omega), h3, fun j hj hj2 => h4 j (by simp at hj; omega) hj2⟩
theorem mem_ndR {a b : Gr} {d : Nat} {l : List Int} {m : Mo} (hd : l.length + d = a.ns.length) :
    m ∈ ndR a b d l ↔ l <+: m.ns ∧ m.ns.length = a.ns.length ∧ m.es.length = a.es.length ∧ (∀ j, l.length ≤ j → j < a.ns.length → NdAt a b m.ns j ∧ fitsP a b (m.ns.take (j + 1))) ∧ ∀ j, j < a.es.length → EdAt a b m.ns m.es j := by
  induction d generalizing l with
  | zero =>
    simp only [ndR]
    rw [mem_edR (by simp)]
    constructor
    · rintro ⟨h1, h2, h3, h4⟩
      exact ⟨by rw [h1]; exact List.prefix_refl _, by rw [h1]; simpa using hd, h3, fun j h5 h6 => by omega, fun j hj => by rw [h1]; exact h4 j (Nat.zero_le _) hj⟩
    · rintro ⟨h1, h2, h3, _, h4⟩
      have := List.IsPrefix.eq_of_length h1 (by omega)
      exact ⟨this.symm, List.nil_prefix, h3, fun j _ hj => by rw [this]; exact h4 j hj⟩
  | succ d ih =>
    simp only [ndR, List.mem_flatMap, List.mem_range]
    constructor
    · rintro ⟨k, hk, hm⟩
      split at hm
      · rename_i hw
        obtain ⟨h1, h2, h3, h4, h5⟩ := (ih (by simp; omega)).1 hm
        refine ⟨(List.prefix_append l [(k : Int)]).trans h1, h2, h3, fun j hj hj2 => ?_, h5⟩
        by_cases e : j = l.length
        · subst e
          obtain ⟨t, ht⟩ := h1
          have he : m.ns.getD l.length 0 = (k : Int) := by rw [← ht, getD_pre (by simp), getD_app]
          have htk : m.ns.take (l.length + 1) = l ++ [(k : Int)] := by
            rw [← ht, List.take_append_of_le_length (by simp), List.take_of_length_le (by simp)]
          refine ⟨?_, by rw [htk]; exact hw.2⟩
          unfold NdAt
          rw [he, Int.toNat_natCast]
          exact ⟨by omega, hw.1⟩
        · exact h4 j (by simp; omega) hj2
      · cases hm
    · rintro ⟨h1, h2, h3, h4, h5⟩
      obtain ⟨⟨⟨g1, g2⟩, g3⟩, g4⟩ := h4 l.length (Nat.le_refl _) (by omega)
      have hp := pre_next h1 (by omega)
      have htk : m.ns.take (l.length + 1) = l ++ [m.ns.getD l.length 0] := by
        obtain ⟨t, ht⟩ := hp
        have := congrArg (List.take (l.length + 1)) ht
        rw [List.take_append_of_le_length (by simp), List.take_of_length_le (by simp)] at this
        exact this.symm
      refine ⟨(m.ns.getD l.length 0).toNat, by omega, ?_⟩
      have hc : (((m.ns.getD l.length 0).toNat : Nat) : Int) = m.ns.getD l.length 0 := by omega
      rw [hc, if_pos ⟨g3, by rw [← htk]; exact g4⟩]
      exact (ih (by simp; omega)).2 ⟨hp, h2, h3, fun j hj hj2 => h4 j (by simp at hj; omega) hj2, h5⟩
theorem edAt_iff {a b : Gr} {m : Mo} {j : Nat} : EdAt a b m.ns m.es j ↔ (0 ≤ m.es.getD j 0 ∧ m.es.getD j 0 < b.es.length) ∧ (a.es.getD j default).ty = (b.es.getD (m.es.getD j 0).toNat default).ty ∧
    m.ns.getD (a.es.getD j default).fr.toNat 0 = (b.es.getD (m.es.getD j 0).toNat default).fr ∧ m.ns.getD (a.es.getD j default).tq.toNat 0 = (b.es.getD (m.es.getD j 0).toNat default).tq := by
  unfold EdAt want
  generalize b.es.getD (m.es.getD j 0).toNat default = y
  obtain ⟨t, f, o⟩ := y
  simp only [Ed.mk.injEq]
  constructor
  · rintro ⟨h, h1, h2, h3⟩; exact ⟨h, h1.symm, h2.symm, h3.symm⟩
  · rintro ⟨h, h1, h2, h3⟩; exact ⟨h, h1.symm, h2.symm, h3.symm⟩
/-- the list has the morphisms, all of them and no others -/
theorem mem_allR {a b : Gr} (ha : validE a = 0) (hb : validE b = 0) {m : Mo} : m ∈ allR a b ↔ MorOk a b m := by
  unfold allR
  rw [mem_ndR (by simp)]
  constructor
  · rintro ⟨_, h2, h3, h4, h5⟩
    exact ⟨ha, hb, h2, h3, fun i hi => (h4 i (Nat.zero_le _) hi).1, fun i hi => edAt_iff.1 (h5 i hi)⟩
  · intro h
    refine ⟨List.nil_prefix, h.ln, h.le, fun j _ hj => ⟨h.nd j hj, fun q hq hmax => ?_⟩, fun j hj => edAt_iff.2 (h.ed j hj)⟩
    obtain ⟨⟨e1, e2⟩, e3⟩ := edAt_iff.2 (h.ed q hq)
    obtain ⟨⟨f1, f2⟩, f3, f4⟩ := valid_at ha hq
    have hlen : (m.ns.take (j + 1)).length = j + 1 := by rw [List.length_take, h.ln]; omega
    rw [hlen] at hmax
    refine ⟨(m.es.getD q 0).toNat, by omega, ?_⟩
    rw [e3]
    unfold want
    have tk : ∀ i : Nat, i < j + 1 → (m.ns.take (j + 1)).getD i 0 = m.ns.getD i 0 := fun i hi => by
      rw [List.getD_eq_getElem?_getD, List.getElem?_take_of_lt hi, ← List.getD_eq_getElem?_getD]
    rw [tk _ (by omega), tk _ (by omega)]

/-! ascending -/
def ltL (l k : List Int) : Prop := ∃ j, (∀ i, i < j → l.getD i 0 = k.getD i 0) ∧ l.getD j 0 < k.getD j 0
def ltM (m n : Mo) : Prop := ltL m.ns n.ns ∨ (m.ns = n.ns ∧ ltL m.es n.es)
theorem ltL_asymm {l k : List Int} (h : ltL l k) (h2 : ltL k l) : False := by
  obtain ⟨j, h1, h3⟩ := h
  obtain ⟨i, h4, h5⟩ := h2
  rcases Nat.lt_trichotomy i j with e | e | e
  · have := h1 i e; omega
  · subst e; omega
  · have := h4 j e; omega
theorem ltL_irrefl {l : List Int} (h : ltL l l) : False := by
  obtain ⟨j, _, h3⟩ := h
  omega
theorem ltM_asymm {m n : Mo} (h : ltM m n) (h2 : ltM n m) : False := by
  rcases h with h | ⟨e, h⟩
  · rcases h2 with h2 | ⟨e2, _⟩
    · exact ltL_asymm h h2
    · rw [e2] at h; exact ltL_irrefl h
  · rcases h2 with h2 | ⟨_, h2⟩
    · rw [e] at h2; exact ltL_irrefl h2
    · exact ltL_asymm h h2
theorem ltL_of {p l k : List Int} {x y : Int} (h1 : p ++ [x] <+: l) (h2 : p ++ [y] <+: k) (hxy : x < y) : ltL l k := by
  obtain ⟨t, rfl⟩ := h1
  obtain ⟨s, rfl⟩ := h2
  refine ⟨p.length, fun i hi => ?_, ?_⟩
  · rw [List.append_assoc, List.append_assoc, getD_pre hi, getD_pre hi]
  · have e : ∀ (z : Int) (q : List Int), (p ++ [z] ++ q).getD p.length 0 = z := fun z q => by
      rw [getD_pre (l := p ++ [z]) (t := q) (by rw [List.length_append]; exact Nat.lt_succ_self _), getD_app]
    rw [e, e]; exact hxy
theorem edR_asc {a b : Gr} {l : List Int} {d : Nat} {es : List Int} (hd : es.length + d = a.es.length) : (edR a b l d es).Pairwise ltM := by
  induction d generalizing es with
  | zero => simp [edR]
  | succ d ih =>
    simp only [edR]
    rw [List.pairwise_flatMap]
    refine ⟨fun k _ => ?_, ?_⟩
    · split
      · exact ih (by simp; omega)
      · exact List.Pairwise.nil
    · refine List.pairwise_lt_range.imp fun {k k2} hk m hm n hn => ?_
      split at hm
      · split at hn
        · obtain ⟨g1, g2, _⟩ := (mem_edR (by simp; omega)).1 hm
          obtain ⟨h1, h2, _⟩ := (mem_edR (by simp; omega)).1 hn
          exact .inr ⟨g1.trans h1.symm, ltL_of g2 h2 (by omega)⟩
        · cases hn
      · cases hm
theorem ndR_asc {a b : Gr} {d : Nat} {l : List Int} (hd : l.length + d = a.ns.length) : (ndR a b d l).Pairwise ltM := by
  induction d generalizing l with
  | zero => exact edR_asc (by simp)
  | succ d ih =>
    simp only [ndR]
    rw [List.pairwise_flatMap]
    refine ⟨fun k _ => ?_, ?_⟩
    · split
      · exact ih (by simp; omega)
      · exact List.Pairwise.nil
    · refine List.pairwise_lt_range.imp fun {k k2} hk m hm n hn => ?_
      split at hm
      · split at hn
        · obtain ⟨g1, _⟩ := (mem_ndR (by simp; omega)).1 hm
          obtain ⟨h1, _⟩ := (mem_ndR (by simp; omega)).1 hn
          exact .inl (ltL_of g1 h1 (by omega))
        · cases hn
      · cases hm
theorem allR_asc (a b : Gr) : (allR a b).Pairwise ltM := ndR_asc (by simp)
/-- an ascending list of all morphisms is this one -/
theorem allR_of {a b : Gr} (ha : validE a = 0) (hb : validE b = 0) {l : List Mo} (h1 : ∀ m, m ∈ l ↔ MorOk a b m) (h2 : l.Pairwise ltM) : l = allR a b := by
  have nd : ∀ {q : List Mo}, q.Pairwise ltM → q.Nodup := fun {q} h => h.imp fun {x y} hxy e => by subst e; exact ltM_asymm hxy hxy
  have hp : l.Perm (allR a b) := (List.perm_ext_iff_of_nodup (nd h2) (nd (allR_asc a b))).2 fun m => by rw [h1, mem_allR ha hb]
  exact hp.eq_of_pairwise (fun x y _ _ hx hy => (ltM_asymm hx hy).elim) h2 (allR_asc a b)

end Go.Proofs.YtaeelanbkdkppaaDoor

/-
  The search for the images of nodes, as plain data: choices, links, what a link leaves of them, all solutions ascending.
-/
namespace Go.Proofs.YtaeelanbkdkppaaDoor

/-- what an edge demands of the images of its ends -/
structure Lk where
  fr : Nat
  tq : Nat
  reach : Nat → Nat
abbrev Choices := Nat → Nat
def sh (v : Nat) : Nat := 2 ^ v
theorem sh_lt {v : Nat} (h : v < 40) : sh v < 1099511627776 := by
  have := Nat.pow_lt_pow_right (a := 2) (by decide) h
  simpa [sh] using this
theorem sh_bit (v i : Nat) : (sh v).testBit i = decide (v = i) := testBit_one v i
theorem bitsOf_sh {v : Nat} (h : v < 40) : bitsOf (sh v) = [v] := bitsOf_one (by omega)
def upd (c : Choices) (i x : Nat) : Choices := fun k => if k = i then x else c k
theorem upd_same (c : Choices) (i x : Nat) : upd c i x i = x := if_pos rfl
theorem upd_other (c : Choices) {i k : Nat} (x : Nat) (h : k ≠ i) : upd c i x k = c k := if_neg h

theorem or_lt {a b : Nat} (ha : a < 1099511627776) (hb : b < 1099511627776) : a ||| b < 1099511627776 := Nat.or_lt_two_pow (n := 40) ha hb
theorem and_lt {a : Nat} (b : Nat) (ha : a < 1099511627776) : a &&& b < 1099511627776 := Nat.lt_of_le_of_lt Nat.and_le_left ha
theorem bit_lt {a i : Nat} (ha : a < 1099511627776) (h : a.testBit i = true) : i < 40 := by
  rcases Nat.lt_or_ge i 40 with h1 | h1
  · exact h1
  · rw [Nat.testBit_lt_two_pow (Nat.lt_of_lt_of_le ha (Nat.pow_le_pow_right (by decide : 0 < 2) h1 : 2 ^ 40 ≤ 2 ^ i))] at h
    cases h
theorem bits40 {a v : Nat} (ha : a < 1099511627776) (h : v ∈ bitsOf a) : v < 40 := bit_lt ha (mem_bitsOf.1 h).2
theorem mem_bits40 {a v : Nat} (ha : a < 1099511627776) : v ∈ bitsOf a ↔ a.testBit v = true := by
  rw [mem_bitsOf]
  exact ⟨fun h => h.2, fun h => ⟨by have := bit_lt ha h; omega, h⟩⟩
theorem ne_zero_bit {a : Nat} (ha : a < 1099511627776) (h : a ≠ 0) : ∃ v, v < 40 ∧ a.testBit v = true := by
  have hn : bitsOf a ≠ [] := fun e => h ((bitsOf_eq_nil (by omega)).1 e)
  obtain ⟨v, hv⟩ := List.exists_mem_of_ne_nil _ hn
  exact ⟨v, bits40 ha hv, (mem_bitsOf.1 hv).2⟩
theorem bit_ne_zero {a v : Nat} (h : a.testBit v = true) : a ≠ 0 := by
  rintro rfl
  simp at h

/-! what a link leaves -/
def srcF (L : Lk) (tq : Nat) (pre : List Nat) : Nat := pre.foldl (fun s v => if L.reach v &&& tq ≠ 0 then s ||| sh v else s) 0
def tgtF (L : Lk) (tq : Nat) (pre : List Nat) : Nat := pre.foldl (fun s v => if L.reach v &&& tq ≠ 0 then s ||| (L.reach v &&& tq) else s) 0
theorem srcF_snoc (L : Lk) (tq : Nat) (pre : List Nat) (v : Nat) : srcF L tq (pre ++ [v]) = if L.reach v &&& tq ≠ 0 then srcF L tq pre ||| sh v else srcF L tq pre := by
  unfold srcF
  rw [List.foldl_append]
  rfl
theorem tgtF_snoc (L : Lk) (tq : Nat) (pre : List Nat) (v : Nat) : tgtF L tq (pre ++ [v]) = if L.reach v &&& tq ≠ 0 then tgtF L tq pre ||| (L.reach v &&& tq) else tgtF L tq pre := by
  unfold tgtF
  rw [List.foldl_append]
  rfl
theorem snocInd {α : Type} {p : List α → Prop} (h0 : p []) (h1 : ∀ l x, p l → p (l ++ [x])) (l : List α) : p l := by
  have : ∀ k : List α, p k.reverse := by
    intro k
    induction k with
    | nil => exact h0
    | cons x k ih => rw [List.reverse_cons]; exact h1 _ _ ih
  have h := this l.reverse
  rwa [List.reverse_reverse] at h
theorem srcF_bit (L : Lk) (tq : Nat) (pre : List Nat) (i : Nat) : (srcF L tq pre).testBit i = decide (i ∈ pre ∧ L.reach i &&& tq ≠ 0) := by
  induction pre using snocInd with
  | h0 => simp [srcF]
  | h1 l x ih =>
    rw [srcF_snoc]
    by_cases h : L.reach x &&& tq ≠ 0
    · rw [if_pos h, Nat.testBit_or, ih, sh_bit]
      by_cases e : x = i
      · subst e; simp [h]
      · simp [e, Ne.symm e]
    · rw [if_neg h, ih]
      by_cases e : i = x
      · subst e; simp [h]
      · simp [e]
theorem tgtF_bit (L : Lk) (tq : Nat) (pre : List Nat) (i : Nat) : (tgtF L tq pre).testBit i = decide (tq.testBit i = true ∧ ∃ v ∈ pre, (L.reach v).testBit i = true) := by
  induction pre using snocInd with
  | h0 => simp [tgtF]
  | h1 l x ih =>
    rw [tgtF_snoc]
    by_cases h : L.reach x &&& tq ≠ 0
    · rw [if_pos h, Nat.testBit_or, ih, Nat.testBit_and]
      by_cases e : tq.testBit i = true
      · rw [e]
        simp only [true_and, Bool.and_true]
        by_cases e2 : (L.reach x).testBit i = true
        · rw [e2]
          rw [Bool.or_true]
          exact (decide_eq_true ⟨x, List.mem_append_right _ (List.mem_singleton.2 rfl), e2⟩).symm
        · rw [Bool.eq_false_iff.2 e2, Bool.or_false]
          apply decide_eq_decide.2
          constructor
          · rintro ⟨v, hv, hb⟩; exact ⟨v, List.mem_append_left _ hv, hb⟩
          · rintro ⟨v, hv, hb⟩
            rcases List.mem_append.1 hv with hv | hv
            · exact ⟨v, hv, hb⟩
            · rw [List.mem_singleton.1 hv] at hb; exact absurd hb e2
      · simp [e]
    · rw [if_neg h, ih]
      have h0 : L.reach x &&& tq = 0 := Classical.not_not.1 h
      apply decide_eq_decide.2
      constructor
      · rintro ⟨ht, v, hv, hb⟩; exact ⟨ht, v, List.mem_append_left _ hv, hb⟩
      · rintro ⟨ht, v, hv, hb⟩
        rcases List.mem_append.1 hv with hv | hv
        · exact ⟨ht, v, hv, hb⟩
        · rw [List.mem_singleton.1 hv] at hb
          have : (L.reach x &&& tq).testBit i = true := by rw [Nat.testBit_and, hb, ht]; rfl
          exact absurd h0 (bit_ne_zero this)
theorem srcF_lt (L : Lk) (tq : Nat) (pre : List Nat) (h : ∀ v ∈ pre, v < 40) : srcF L tq pre < 1099511627776 := by
  induction pre using snocInd with
  | h0 => exact (by decide : (0 : Nat) < 1099511627776)
  | h1 l x ih =>
    rw [srcF_snoc]
    have ih := ih fun v hv => h v (List.mem_append_left _ hv)
    split
    · exact or_lt ih (sh_lt (h x (by simp)))
    · exact ih
theorem tgtF_lt (L : Lk) (tq : Nat) (ht : tq < 1099511627776) (pre : List Nat) : tgtF L tq pre < 1099511627776 := by
  induction pre using snocInd with
  | h0 => exact (by decide : (0 : Nat) < 1099511627776)
  | h1 l x ih =>
    rw [tgtF_snoc]
    split
    · exact or_lt ih (Nat.lt_of_le_of_lt Nat.and_le_right ht)
    · exact ih
def srcS (L : Lk) (fr tq : Nat) : Nat := srcF L tq (bitsOf fr)
def tgtS (L : Lk) (fr tq : Nat) : Nat := tgtF L tq (bitsOf fr)

/-! solutions -/
def okB (ls : List Lk) (l : List Int) : Bool := ls.all fun L => (L.reach (l.getD L.fr 0).toNat).testBit (l.getD L.tq 0).toNat
/-- a list of images of n nodes out of the choices -/
def Out (n : Nat) (c : Choices) (l : List Int) : Prop := l.length = n ∧ ∀ j, j < n → 0 ≤ l.getD j 0 ∧ (c j).testBit (l.getD j 0).toNat = true
def Sol (n : Nat) (ls : List Lk) (c : Choices) (l : List Int) : Prop := Out n c l ∧ okB ls l = true
def Small (c : Choices) : Prop := ∀ i, c i < 1099511627776
def prodC (c : Choices) : Nat → Nat → List (List Int)
  | 0, _ => [[]]
  | d + 1, i => (bitsOf (c i)).flatMap fun (v : Nat) => (prodC c d (i + 1)).map fun l => (v : Int) :: l
def solL (n : Nat) (ls : List Lk) (c : Choices) : List (List Int) := (prodC c n 0).filter (okB ls)
theorem mem_prodC {c : Choices} (hc : Small c) {d i : Nat} {l : List Int} : l ∈ prodC c d i ↔ l.length = d ∧ ∀ j, j < d → 0 ≤ l.getD j 0 ∧ (c (i + j)).testBit (l.getD j 0).toNat = true := by
  induction d generalizing i l with
  | zero =>
    simp only [prodC, List.mem_singleton]
    constructor
    · rintro rfl; exact ⟨rfl, fun j h => by omega⟩
    · rintro ⟨h, _⟩; exact List.length_eq_zero_iff.1 h
  | succ d ih =>
    simp only [prodC, List.mem_flatMap, List.mem_map]
    constructor
    · rintro ⟨v, hv, k, hk, rfl⟩
      obtain ⟨h1, h2⟩ := ih.1 hk
      refine ⟨by simp [h1], fun j hj => ?_⟩
      cases j with
      | zero =>
        rw [List.getD_cons_zero, Int.toNat_natCast]
        exact ⟨by omega, (mem_bits40 (hc i)).1 hv⟩
      | succ j =>
        rw [List.getD_cons_succ, show i + (j + 1) = i + 1 + j by omega]
        exact h2 j (by omega)
    · rintro ⟨h1, h2⟩
      cases l with
      | nil => simp at h1
      | cons x k =>
        obtain ⟨h3, h4⟩ := h2 0 (by omega)
        rw [List.getD_cons_zero] at h3 h4
        refine ⟨x.toNat, (mem_bits40 (hc i)).2 h4, k, ih.2 ⟨by simpa using h1, fun j hj => ?_⟩, by rw [show ((x.toNat : Nat) : Int) = x by omega]⟩
        have := h2 (j + 1) (by omega)
        rw [List.getD_cons_succ, show i + (j + 1) = i + 1 + j by omega] at this
        exact this
theorem mem_solL {n : Nat} {ls : List Lk} {c : Choices} (hc : Small c) {l : List Int} : l ∈ solL n ls c ↔ Sol n ls c l := by
  unfold solL Sol Out
  rw [List.mem_filter, mem_prodC hc]
  simp only [Nat.zero_add]
theorem ltL_cons {x : Int} {l k : List Int} (h : ltL l k) : ltL (x :: l) (x :: k) := by
  obtain ⟨j, h1, h2⟩ := h
  refine ⟨j + 1, fun i hi => ?_, by rw [List.getD_cons_succ, List.getD_cons_succ]; exact h2⟩
  cases i with
  | zero => rfl
  | succ i => rw [List.getD_cons_succ, List.getD_cons_succ]; exact h1 i (by omega)
theorem ltL_head {x y : Int} {l k : List Int} (h : x < y) : ltL (x :: l) (y :: k) := ⟨0, fun i hi => by omega, h⟩
theorem prodC_asc (c : Choices) (d i : Nat) : (prodC c d i).Pairwise ltL := by
  induction d generalizing i with
  | zero => simp [prodC]
  | succ d ih =>
    simp only [prodC]
    rw [List.pairwise_flatMap]
    refine ⟨fun v _ => ?_, ?_⟩
    · rw [List.pairwise_map]
      exact (ih (i + 1)).imp fun h => ltL_cons h
    · refine (bitsOf_asc (c i)).imp fun {v u} hvu l hl k hk => ?_
      simp only [List.mem_map] at hl hk
      obtain ⟨l, _, rfl⟩ := hl
      obtain ⟨k, _, rfl⟩ := hk
      exact ltL_head (by omega)
theorem solL_asc (n : Nat) (ls : List Lk) (c : Choices) : (solL n ls c).Pairwise ltL := (prodC_asc c n 0).filter _
theorem ltL_nodup {q : List (List Int)} (h : q.Pairwise ltL) : q.Nodup := h.imp fun {x y} hxy e => by subst e; exact ltL_irrefl hxy
theorem asc_ext {l k : List (List Int)} (hl : l.Pairwise ltL) (hk : k.Pairwise ltL) (h : ∀ x, x ∈ l ↔ x ∈ k) : l = k :=
  ((List.perm_ext_iff_of_nodup (ltL_nodup hl) (ltL_nodup hk)).2 h).eq_of_pairwise (fun _ _ _ _ hx hy => (ltL_asymm hx hy).elim) hl hk
theorem solL_ext {n : Nat} {ls : List Lk} {c d : Choices} (hc : Small c) (hd : Small d) (h : ∀ l, Sol n ls c l ↔ Sol n ls d l) : solL n ls c = solL n ls d :=
  asc_ext (solL_asc _ _ _) (solL_asc _ _ _) fun l => by rw [mem_solL hc, mem_solL hd, h]
theorem solL_nil {n : Nat} {ls : List Lk} {c : Choices} (hc : Small c) (h : ∀ l, ¬ Sol n ls c l) : solL n ls c = [] :=
  List.eq_nil_iff_forall_not_mem.2 fun l hl => h l ((mem_solL hc).1 hl)
theorem small_upd {c : Choices} (hc : Small c) {x : Nat} (hx : x < 1099511627776) (i : Nat) : Small (upd c i x) := fun k => by
  unfold upd
  split
  · exact hx
  · exact hc k
theorem solL_settle {n : Nat} {ls : List Lk} {c : Choices} (hc : Small c) {node : Nat} (hn : node < n) (h1 : ∀ i, i < node → ∃ v, bitsOf (c i) = [v]) :
    solL n ls c = (bitsOf (c node)).flatMap fun v => solL n ls (upd c node (sh v)) := by
  have hs : ∀ v ∈ bitsOf (c node), Small (upd c node (sh v)) := fun v hv => small_upd hc (sh_lt (bits40 (hc node) hv)) node
  have hsol : ∀ v ∈ bitsOf (c node), ∀ l, Sol n ls (upd c node (sh v)) l ↔ Sol n ls c l ∧ l.getD node 0 = (v : Int) := by
    intro v hv l
    constructor
    · rintro ⟨⟨a1, a2⟩, a3⟩
      have hv2 := a2 node hn
      rw [upd_same, sh_bit] at hv2
      have e : v = (l.getD node 0).toNat := by simpa using hv2.2
      refine ⟨⟨⟨a1, fun j hj => ?_⟩, a3⟩, by have := hv2.1; omega⟩
      by_cases ej : j = node
      · subst ej
        refine ⟨hv2.1, ?_⟩
        rw [← e]
        exact (mem_bits40 (hc j)).1 hv
      · have := a2 j hj
        rwa [upd_other _ _ ej] at this
    · rintro ⟨⟨⟨a1, a2⟩, a3⟩, e⟩
      refine ⟨⟨a1, fun j hj => ?_⟩, a3⟩
      by_cases ej : j = node
      · subst ej
        rw [upd_same, e, Int.toNat_natCast, sh_bit]
        exact ⟨by omega, by simp⟩
      · rw [upd_other _ _ ej]
        exact a2 j hj
  refine asc_ext (solL_asc _ _ _) ?_ fun l => ?_
  · rw [List.pairwise_flatMap]
    refine ⟨fun v _ => solL_asc _ _ _, ?_⟩
    refine List.Pairwise.imp_of_mem (R := (· < ·)) (fun {v u} hv hu hvu l hl k hk => ?_) (bitsOf_asc (c node))
    obtain ⟨⟨⟨l1, l2⟩, _⟩, l3⟩ := (hsol v hv l).1 ((mem_solL (hs v hv)).1 hl)
    obtain ⟨⟨⟨k1, k2⟩, _⟩, k3⟩ := (hsol u hu k).1 ((mem_solL (hs u hu)).1 hk)
    refine ⟨node, fun i hi => ?_, by rw [l3, k3]; omega⟩
    obtain ⟨x, hx⟩ := h1 i hi
    have m1 := (mem_bits40 (hc i)).2 (l2 i (by omega)).2
    have m2 := (mem_bits40 (hc i)).2 (k2 i (by omega)).2
    rw [hx, List.mem_singleton] at m1 m2
    have := (l2 i (by omega)).1
    have := (k2 i (by omega)).1
    omega
  · rw [mem_solL hc, List.mem_flatMap]
    constructor
    · intro h
      have h0 := h.1.2 node hn
      have hv := (mem_bits40 (hc node)).2 h0.2
      exact ⟨_, hv, (mem_solL (hs _ hv)).2 ((hsol _ hv l).2 ⟨h, by have := h0.1; omega⟩)⟩
    · rintro ⟨v, hv, h⟩
      exact ((hsol v hv l).1 ((mem_solL (hs v hv)).1 h)).1
/-- choices that no link narrows -/
def Stable (ls : List Lk) (c : Choices) : Prop := ∀ L ∈ ls, srcS L (c L.fr) (c L.tq) = c L.fr ∧ tgtS L (c L.fr) (c L.tq) = c L.tq ∧ c L.fr ≠ 0
def imgs (n : Nat) (c : Choices) : List Int := (List.range n).map fun i => (Lib.ctz 64 (c i) : Int)
theorem imgs_get {n i : Nat} (c : Choices) (h : i < n) : (imgs n c).getD i 0 = (Lib.ctz 64 (c i) : Int) := by
  rw [List.getD_eq_getElem?_getD, imgs, List.getElem?_map, List.getElem?_range h]
  rfl
theorem solL_leaf {n : Nat} {ls : List Lk} {c : Choices} (hc : Small c) (hls : ∀ L ∈ ls, L.fr < n ∧ L.tq < n) (h1 : ∀ i, i < n → ∃ v, bitsOf (c i) = [v]) (hs : Stable ls c) : solL n ls c = [imgs n c] := by
  have hz : ∀ i, i < n → bitsOf (c i) = [Lib.ctz 64 (c i)] := fun i hi => by
    obtain ⟨v, hv⟩ := h1 i hi
    have h0 : c i ≠ 0 := fun e => by rw [e, bitsOf_zero] at hv; cases hv
    have := bitsOf_pop h0 (by have := hc i; omega)
    rw [this] at hv ⊢
    simp only [List.cons.injEq] at hv
    rw [hv.2]
  have hb : ∀ i, i < n → ∀ v, (c i).testBit v = true ↔ v = Lib.ctz 64 (c i) := fun i hi v => by
    rw [← mem_bits40 (hc i), hz i hi, List.mem_singleton]
  refine asc_ext (solL_asc _ _ _) (List.pairwise_singleton _ _) fun l => ?_
  rw [mem_solL hc, List.mem_singleton]
  constructor
  · rintro ⟨⟨a1, a2⟩, _⟩
    apply List.ext_getElem?
    intro i
    by_cases hi : i < n
    · have h2 := a2 i hi
      have h3 := (hb i hi _).1 h2.2
      have h4 := imgs_get c hi
      rw [List.getD_eq_getElem?_getD] at h2 h3 h4
      have e1 : i < l.length := by omega
      have e2 : i < (imgs n c).length := by simp [imgs, hi]
      rw [List.getElem?_eq_getElem e1] at h2 h3 ⊢
      rw [List.getElem?_eq_getElem e2] at h4 ⊢
      simp only [Option.getD_some] at h2 h3 h4
      have := h2.1
      rw [h4]
      congr 1
      omega
    · rw [List.getElem?_eq_none (by omega), List.getElem?_eq_none (by simp [imgs]; omega)]
  · rintro rfl
    refine ⟨⟨by simp [imgs], fun j hj => ?_⟩, ?_⟩
    · rw [imgs_get c hj, Int.toNat_natCast]
      exact ⟨by omega, (hb j hj _).2 rfl⟩
    · unfold okB
      rw [List.all_eq_true]
      intro L hL
      obtain ⟨l1, l2⟩ := hls L hL
      obtain ⟨s1, s2, s3⟩ := hs L hL
      rw [imgs_get c l1, imgs_get c l2, Int.toNat_natCast, Int.toNat_natCast]
      have h2 : (srcS L (c L.fr) (c L.tq)).testBit (Lib.ctz 64 (c L.fr)) = true := by rw [s1]; exact (hb _ l1 _).2 rfl
      unfold srcS at h2
      rw [srcF_bit] at h2
      have h3 := (of_decide_eq_true h2).2
      obtain ⟨u, _, hu⟩ := ne_zero_bit (Nat.lt_of_le_of_lt Nat.and_le_right (hc L.tq)) h3
      rw [Nat.testBit_and, Bool.and_eq_true] at hu
      rw [(hb _ l2 u).1 hu.2] at hu
      exact hu.1
/-- one step of a link -/
def stepL (c : Choices) (L : Lk) : Choices := upd (upd c L.fr (srcS L (c L.fr) (c L.tq))) L.tq (tgtS L (c L.fr) (c L.tq))
theorem src_lt (L : Lk) (fr tq : Nat) (h : fr < 1099511627776) : srcS L fr tq < 1099511627776 := srcF_lt L tq _ fun _ hv => bits40 h hv
theorem tgt_lt (L : Lk) (fr tq : Nat) (h : tq < 1099511627776) : tgtS L fr tq < 1099511627776 := tgtF_lt L tq h _
theorem small_step {c : Choices} (hc : Small c) (L : Lk) : Small (stepL c L) := small_upd (small_upd hc (src_lt L _ _ (hc _)) _) (tgt_lt L _ _ (hc _)) _
theorem step_sub {c : Choices} (hc : Small c) (L : Lk) (i v : Nat) (h : (stepL c L i).testBit v = true) : (c i).testBit v = true := by
  unfold stepL at h
  by_cases e : i = L.tq
  · subst e
    rw [upd_same, tgtS, tgtF_bit] at h
    exact (of_decide_eq_true h).1
  · rw [upd_other _ _ e] at h
    by_cases e2 : i = L.fr
    · subst e2
      rw [upd_same, srcS, srcF_bit] at h
      exact (mem_bits40 (hc _)).1 (of_decide_eq_true h).1
    · rwa [upd_other _ _ e2] at h
theorem step_sol {n : Nat} {ls : List Lk} {c : Choices} (hc : Small c) {L : Lk} (hL : L ∈ ls) (h1 : L.fr < n) (h2 : L.tq < n) (l : List Int) : Sol n ls c l ↔ Sol n ls (stepL c L) l := by
  constructor
  · rintro ⟨⟨a1, a2⟩, a3⟩
    refine ⟨⟨a1, fun j hj => ⟨(a2 j hj).1, ?_⟩⟩, a3⟩
    have hr : (L.reach (l.getD L.fr 0).toNat).testBit (l.getD L.tq 0).toNat = true := List.all_eq_true.1 a3 L hL
    have hf := (a2 L.fr h1).2
    have ht := (a2 L.tq h2).2
    unfold stepL
    by_cases e : j = L.tq
    · subst e
      rw [upd_same, tgtS, tgtF_bit]
      exact decide_eq_true ⟨ht, _, (mem_bits40 (hc _)).2 hf, hr⟩
    · rw [upd_other _ _ e]
      by_cases e2 : j = L.fr
      · subst e2
        rw [upd_same, srcS, srcF_bit]
        refine decide_eq_true ⟨(mem_bits40 (hc _)).2 hf, bit_ne_zero (v := (l.getD L.tq 0).toNat) ?_⟩
        rw [Nat.testBit_and, hr, ht]
        rfl
      · rw [upd_other _ _ e2]
        exact (a2 j hj).2
  · rintro ⟨⟨a1, a2⟩, a3⟩
    exact ⟨⟨a1, fun j hj => ⟨(a2 j hj).1, step_sub hc L j _ (a2 j hj).2⟩⟩, a3⟩
theorem step_zero {n : Nat} {ls : List Lk} {c : Choices} (hc : Small c) {L : Lk} (hL : L ∈ ls) (h1 : L.fr < n) (h2 : L.tq < n) (h0 : stepL c L L.fr = 0) (l : List Int) : ¬ Sol n ls c l := by
  intro h
  have := (((step_sol hc hL h1 h2 l).1 h).1.2 L.fr h1).2
  rw [h0] at this
  simp at this
/-- the nodes that have a choice have one still -/
theorem step_full {c : Choices} (hc : Small c) {L : Lk} (hne : L.fr ≠ L.tq) (h0 : stepL c L L.fr ≠ 0) (i : Nat) (hi : c i ≠ 0) : stepL c L i ≠ 0 := by
  by_cases e : i = L.tq
  · subst e
    have hf : stepL c L L.fr = srcS L (c L.fr) (c L.tq) := by unfold stepL; rw [upd_other _ _ hne, upd_same]
    rw [hf] at h0
    obtain ⟨v, _, hv⟩ := ne_zero_bit (src_lt L _ _ (hc _)) h0
    rw [srcS, srcF_bit] at hv
    obtain ⟨hv1, hv2⟩ := of_decide_eq_true hv
    obtain ⟨u, _, hu⟩ := ne_zero_bit (Nat.lt_of_le_of_lt Nat.and_le_right (hc L.tq)) hv2
    rw [Nat.testBit_and, Bool.and_eq_true] at hu
    refine bit_ne_zero (v := u) ?_
    unfold stepL
    rw [upd_same, tgtS, tgtF_bit]
    exact decide_eq_true ⟨hu.2, v, hv1, hu.1⟩
  · by_cases e2 : i = L.fr
    · rw [e2]; exact h0
    · unfold stepL
      rw [upd_other _ _ e, upd_other _ _ e2]
      exact hi
/-- the size of all choices -/
def sizeC (c : Choices) : Nat := ((List.range 40).map c).sum
def Sub (c d : Choices) : Prop := ∀ i v, (c i).testBit v = true → (d i).testBit v = true
theorem Sub.refl (c : Choices) : Sub c c := fun _ _ h => h
theorem Sub.trans {a b c : Choices} (h : Sub a b) (k : Sub b c) : Sub a c := fun i v e => k i v (h i v e)
theorem bits_le {a b : Nat} (h : ∀ v, a.testBit v = true → b.testBit v = true) : a ≤ b := by
  have e : a &&& b = a := by
    apply Nat.eq_of_testBit_eq
    intro i
    rw [Nat.testBit_and]
    cases ha : a.testBit i
    · rfl
    · rw [h i ha]; rfl
  rw [← e]
  exact Nat.and_le_right
theorem bits_eq {a b : Nat} (h : ∀ v, a.testBit v = true → b.testBit v = true) (k : ∀ v, b.testBit v = true → a.testBit v = true) : a = b := Nat.le_antisymm (bits_le h) (bits_le k)
theorem Sub.le {c d : Choices} (h : Sub c d) (i : Nat) : c i ≤ d i := bits_le (h i)
theorem Sub.antisymm {c d : Choices} (h : Sub c d) (k : Sub d c) : c = d := funext fun i => bits_eq (h i) (k i)
theorem sum_le {l : List Nat} {f g : Nat → Nat} (h : ∀ i, f i ≤ g i) : (l.map f).sum ≤ (l.map g).sum := by
  induction l with
  | nil => exact Nat.le_refl _
  | cons x l ih =>
    simp only [List.map_cons, List.sum_cons]
    have := h x
    omega
theorem sum_lt {l : List Nat} {f g : Nat → Nat} (h : ∀ i, f i ≤ g i) {j : Nat} (hj : j ∈ l) (hlt : f j < g j) : (l.map f).sum < (l.map g).sum := by
  induction l with
  | nil => cases hj
  | cons x l ih =>
    simp only [List.map_cons, List.sum_cons]
    rcases List.mem_cons.1 hj with e | e
    · subst e
      have := sum_le (l := l) h
      omega
    · have := ih e
      have := h x
      omega
theorem size_lt {c d : Choices} (h : Sub c d) {i : Nat} (hi : i < 40) (hne : c i ≠ d i) : sizeC c < sizeC d :=
  sum_lt (fun i => h.le i) (List.mem_range.2 hi) (by have := h.le i; omega)
/-- what is asked of links -/
def LsOk (n : Nat) (ls : List Lk) : Prop := ∀ L ∈ ls, L.fr < n ∧ L.tq < n ∧ L.fr ≠ L.tq ∧ ∀ v, v < 40 → L.reach v < 1099511627776
/-- some links one after another -/
def foldC (c : Choices) (ls : List Lk) (k : Nat) : Choices := (ls.take k).foldl stepL c
theorem foldC_zero (c : Choices) (ls : List Lk) : foldC c ls 0 = c := rfl
theorem foldC_succ (c : Choices) (ls : List Lk) {k : Nat} (h : k < ls.length) : foldC c ls (k + 1) = stepL (foldC c ls k) ls[k] := by
  unfold foldC
  rw [List.take_succ_eq_append_getElem h, List.foldl_append]
  rfl
theorem foldC_small {c : Choices} (hc : Small c) (ls : List Lk) : ∀ k, k ≤ ls.length → Small (foldC c ls k) := by
  intro k
  induction k with
  | zero => intro _; exact hc
  | succ k ih =>
    intro h
    rw [foldC_succ c ls (by omega)]
    exact small_step (ih (by omega)) _
theorem step_sub' {c : Choices} (hc : Small c) (L : Lk) : Sub (stepL c L) c := fun i v h => step_sub hc L i v h
theorem foldC_sub {c : Choices} (hc : Small c) (ls : List Lk) {j : Nat} : ∀ k, j ≤ k → k ≤ ls.length → Sub (foldC c ls k) (foldC c ls j) := by
  intro k hj
  induction k with
  | zero => intro _; obtain rfl : j = 0 := by omega
            exact Sub.refl _
  | succ k ih =>
    intro h
    by_cases e : j = k + 1
    · subst e; exact Sub.refl _
    · rw [foldC_succ c ls (by omega)]
      exact (step_sub' (foldC_small hc ls k (by omega)) _).trans (ih (by omega) (by omega))
theorem foldC_sol {n : Nat} {ls : List Lk} (hls : LsOk n ls) {c : Choices} (hc : Small c) (l : List Int) : ∀ k, k ≤ ls.length → (Sol n ls c l ↔ Sol n ls (foldC c ls k) l) := by
  intro k
  induction k with
  | zero => intro _; exact Iff.rfl
  | succ k ih =>
    intro h
    rw [foldC_succ c ls (by omega), ih (by omega)]
    have hm : ls[k] ∈ ls := List.getElem_mem _
    exact step_sol (foldC_small hc ls k (by omega)) hm (hls _ hm).1 (hls _ hm).2.1 l
theorem foldC_full {n : Nat} {ls : List Lk} (hls : LsOk n ls) {c : Choices} (hc : Small c) (i : Nat) (hi : c i ≠ 0) : ∀ k, k ≤ ls.length → (∀ j (h : j < ls.length), j < k → foldC c ls (j + 1) (ls[j]).fr ≠ 0) → foldC c ls k i ≠ 0 := by
  intro k
  induction k with
  | zero => intro _ _; exact hi
  | succ k ih =>
    intro h h0
    have h1 := h0 k (by omega) (by omega)
    rw [foldC_succ c ls (by omega)] at h1 ⊢
    have hm : ls[k] ∈ ls := List.getElem_mem _
    exact step_full (foldC_small hc ls k (by omega)) (hls _ hm).2.2.1 h1 i (ih (by omega) fun j hj hjk => h0 j hj (by omega))
theorem foldC_none {n : Nat} {ls : List Lk} (hls : LsOk n ls) {c : Choices} (hc : Small c) {k : Nat} (h : k < ls.length) (h0 : foldC c ls (k + 1) (ls[k]).fr = 0) (l : List Int) : ¬ Sol n ls c l := by
  rw [foldC_sol hls hc l k (by omega)]
  rw [foldC_succ c ls h] at h0
  have hm : ls[k] ∈ ls := List.getElem_mem _
  exact step_zero (foldC_small hc ls k (by omega)) hm (hls _ hm).1 (hls _ hm).2.1 h0 l
theorem foldC_high {n : Nat} {ls : List Lk} (hls : LsOk n ls) (hn : n ≤ 40) (c : Choices) (i : Nat) (hi : 40 ≤ i) : ∀ k, k ≤ ls.length → foldC c ls k i = c i := by
  intro k
  induction k with
  | zero => intro _; rfl
  | succ k ih =>
    intro h
    have hm : ls[k] ∈ ls := List.getElem_mem _
    obtain ⟨a1, a2, _⟩ := hls _ hm
    rw [foldC_succ c ls (by omega), stepL, upd_other _ _ (by omega), upd_other _ _ (by omega)]
    exact ih (by omega)
theorem foldC_stable {n : Nat} {ls : List Lk} (hls : LsOk n ls) (hn : n ≤ 40) {c : Choices} (hc : Small c) (he : ∀ i, i < 40 → foldC c ls ls.length i = c i) (h0 : ∀ j (h : j < ls.length), foldC c ls (j + 1) (ls[j]).fr ≠ 0) : Stable ls c := by
  have hall : foldC c ls ls.length = c := funext fun i => (Nat.lt_or_ge i 40).elim (he i) (fun h => foldC_high hls hn c i h _ (Nat.le_refl _))
  have hk : ∀ k, k ≤ ls.length → foldC c ls k = c := fun k h => Sub.antisymm (foldC_sub hc ls k (Nat.zero_le _) h) (by have := foldC_sub hc ls (j := k) ls.length h (Nat.le_refl _); rwa [hall] at this)
  intro L hL
  obtain ⟨k, hlt, rfl⟩ := List.getElem_of_mem hL
  have h1 := hk (k + 1) (by omega)
  rw [foldC_succ c ls hlt, hk k (by omega)] at h1
  have h2 := h0 k hlt
  rw [hk (k + 1) (by omega)] at h2
  obtain ⟨_, _, a3, _⟩ := hls _ hL
  have e1 := congrFun h1 (ls[k]).fr
  have e2 := congrFun h1 (ls[k]).tq
  unfold stepL at e1 e2
  rw [upd_other _ _ a3, upd_same] at e1
  rw [upd_same] at e2
  exact ⟨e1, e2, h2⟩

end Go.Proofs.YtaeelanbkdkppaaDoor

/-
  A loop over an iterator that writes blocks of its own between two rounds: what the iterator holds and what its rounds hold are sets of blocks that do not meet.
-/
namespace Go.Proofs.YtaeelanbkdkppaaDoor
open Go.RowKit

/-- a set of blocks -/
abbrev Blks := Nat → Prop

/-- what is not among these blocks lies as it lay -/
structure Keeps (H : Blks) (w w' : World) : Prop where
  os : w'.os = w.os
  tape : w'.tape = w.tape
  output : w'.output = w.output
  size : w.heap.size ≤ w'.heap.size
  block : ∀ k, k < w.heap.size → ¬ H k → w'.heap[k]? = w.heap[k]?

theorem Keeps.refl (H : Blks) (w : World) : Keeps H w w := ⟨rfl, rfl, rfl, Nat.le_refl _, fun _ _ _ => rfl⟩
theorem Keeps.trans {H K : Blks} {a b c : World} (h : Keeps H a b) (k : Keeps K b c) (hK : ∀ i, i < a.heap.size → K i → H i) : Keeps H a c :=
  ⟨k.os.trans h.os, k.tape.trans h.tape, k.output.trans h.output, Nat.le_trans h.size k.size, fun i hi hn => (k.block i (Nat.lt_of_lt_of_le hi h.size) (fun e => hn (hK i hi e))).trans (h.block i hi hn)⟩
theorem Keeps.mono {H K : Blks} {a b : World} (h : Keeps H a b) (hK : ∀ i, i < a.heap.size → H i → K i) : Keeps K a b := ⟨h.os, h.tape, h.output, h.size, fun i hi hn => h.block i hi fun e => hn (hK i hi e)⟩
theorem Keeps.of_below {H : Blks} {B : Nat} {a b : World} (h : Below B a b) (hH : ∀ i, i < a.heap.size → B ≤ i → H i) : Keeps H a b :=
  ⟨h.os, h.tape, h.output, h.size, fun i hi hn => h.block i (Nat.lt_of_not_le fun e => hn (hH i hi e))⟩
theorem Keeps.of_below' (H : Blks) {a b : World} (h : Below a.heap.size a b) : Keeps H a b := Keeps.of_below h fun i h1 h2 => by omega
theorem Keeps.below {H : Blks} {B : Nat} {a b : World} (h : Keeps H a b) (hB : B ≤ a.heap.size) (hH : ∀ i, i < B → ¬ H i) : Below B a b :=
  ⟨h.os, h.tape, h.output, h.size, fun i hi => h.block i (by omega) (hH i hi)⟩
theorem keeps_alloc (H : Blks) (w : World) (o : Obj) : Keeps H w (w.alloc o) := Keeps.of_below' H ((Below.refl _ w).alloc (Nat.le_refl _) o)
theorem keeps_drew (H : Blks) (w : World) : Keeps H w w.drew := Keeps.of_below' H (Below.refl _ w).drew
theorem keeps_setCell {H : Blks} (w : World) (p : Addr) (u : Value) (h : H p.block) : Keeps H w (w.setCell p u) :=
  ⟨rfl, rfl, rfl, by simp [World.setCell], fun k _ hn => Below.heap_setCell _ _ _ _ (fun e => hn (e ▸ h))⟩
theorem keeps_putObj {H : Blks} (w : World) (l : Nat) (o : Obj) (h : H l) : Keeps H w (w.putObj l o) :=
  ⟨rfl, rfl, rfl, by simp, fun k _ hn => World.putObj_heap_other (fun e => hn (e ▸ h))⟩
theorem at_alloc (W : World) (o : Obj) (b : Nat) : (W.alloc o).heap[b]? = if b = W.heap.size then some o else W.heap[b]? := by
  show (W.heap.push o)[b]? = _
  rw [Array.getElem?_push]
theorem size_alloc (W : World) (o : Obj) : (W.alloc o).heap.size = W.heap.size + 1 := by simp
/-- what is said of a world speaks of its own blocks H and of Rd alone -/
def Foot (Rd : Blks) (J : Blks → World → Prop) : Prop :=
  ∀ H V, J H V → (∀ b, H b → b < V.heap.size) ∧ ∀ V', V.heap.size ≤ V'.heap.size → (∀ b, H b ∨ Rd b → V'.heap[b]? = V.heap[b]?) → J H V'

theorem Foot.lt {Rd : Blks} {J : Blks → World → Prop} (h : Foot Rd J) {H : Blks} {V : World} (hj : J H V) {b : Nat} (hb : H b) : b < V.heap.size := (h H V hj).1 b hb
theorem Foot.keep {Rd : Blks} {J : Blks → World → Prop} (h : Foot Rd J) {H : Blks} {V V' : World} (hj : J H V) (hs : V.heap.size ≤ V'.heap.size) (hb : ∀ b, H b ∨ Rd b → V'.heap[b]? = V.heap[b]?) : J H V' := (h H V hj).2 V' hs hb
theorem Foot.keeps {Rd : Blks} {J : Blks → World → Prop} (h : Foot Rd J) {H K : Blks} {V V' : World} (hj : J H V) (hk : Keeps K V V') (hr : ∀ b, Rd b → b < V.heap.size) (hd : ∀ b, H b ∨ Rd b → ¬ K b) : J H V' :=
  h.keep hj hk.size fun b hb => hk.block b (hb.elim (fun e => h.lt hj e) (hr b)) (hd b hb)
theorem Foot.below {Rd : Blks} {J : Blks → World → Prop} (h : Foot Rd J) {H : Blks} {V V' : World} (hj : J H V) (hr : ∀ b, Rd b → b < V.heap.size) (hk : Below V.heap.size V V') : J H V' :=
  h.keep hj hk.size fun b hb => hk.block b (hb.elim (fun e => h.lt hj e) (hr b))

theorem Foot.pure {Rd : Blks} {J : Blks → World → Prop} (p : Prop) (h : Foot Rd J) : Foot Rd (fun H V => p ∧ J H V) := fun H V hj => ⟨(h H V hj.2).1, fun V' hs hb => ⟨hj.1, (h H V hj.2).2 V' hs hb⟩⟩
theorem foot_false (Rd : Blks) : Foot Rd (fun _ _ => False) := fun _ _ h => h.elim

/-- behind a loop -/
theorem below_loop {w W0 W : World} {B : Nat} {H : Blks} {D : Nat} (o : Obj) (h0 : Below B w W0) (hB : B ≤ w.heap.size) (hk : Keeps H W0 W) (hH : ∀ b, H b → B ≤ b) (hD : W0.heap.size ≤ D) : Below B w (W.putObj D o) := by
  have h1 : Below B W0 W := hk.below (Nat.le_trans hB h0.size) fun i hi h => by have := hH i h; omega
  exact (h0.trans h1).trans ⟨rfl, rfl, rfl, by simp, fun k hk => World.putObj_heap_other (by have := h0.size; omega)⟩

/-- the end of a round: what it held, what it was given and what is new are the blocks that it holds now -/
def Turn (HG : Blks) (V : World) (J Jx : Blks → World → Prop) (e : Ending) (V' : World) : Prop :=
  Keeps HG V V' ∧ ∃ H', (∀ b, H' b → HG b ∨ V.heap.size ≤ b) ∧ ((e = .returned (.bool true) ∧ J H' V') ∨ (e = .returned (.bool false) ∧ Jx H' V'))

theorem pre_mem {α : Type} {pre xs : List α} {x : α} (h : pre ++ [x] <+: xs) : x ∈ xs := h.subset (by simp)
/-- the iterator hands the elements of a list tq its rounds in their order, until one says no; R: what it hands over, and the blocks that it gives away with it; O: the blocks from before that it relies on -/
def Visits (P : Program) (g : Nat) (ba lb : Array Value) {α : Type} (xs : List α) (R : α → Blks → World → Array Value → Prop) (O : Blks) (w : World) : Prop :=
  ∀ (l : Nat) (J : List α → Blks → World → Prop) (Jx : Blks → World → Prop) (H : Blks) (W : World), Below w.heap.size w W → (∀ pre, Foot (fun b => b < W.heap.size) (J pre)) → Foot (fun b => b < W.heap.size) Jx → (∀ b, O b → ¬ H b) →
    (∀ pre x H V G vs, J pre H V → pre ++ [x] <+: xs → R x G V vs → (∀ b, G b → ¬ H b ∧ b < V.heap.size) →
      YieldAt Fence.wide 0 P l vs V (Turn (fun b => H b ∨ G b) V (J (pre ++ [x])) Jx)) →
    J [] H W →
    Calls P g (ba ++ #[.func (.yield l) #[] #[]] ++ lb) W fun e W' => (∃ v, e = .returned v) ∧ Keeps H W W' ∧ ∃ H', (∀ b, H' b → H b ∨ W.heap.size ≤ b) ∧ (J xs H' W' ∨ Jx H' W')

/-- what a round keeps, behind what was kept before it -/
theorem keeps_turn {H H' G H3 : Blks} {W w1 w3 : World} (hk : Keeps H W w1) (hg : ∀ b, H' b → H b ∨ W.heap.size ≤ b) (hG : ∀ b, G b → W.heap.size ≤ b) (hk3 : Keeps (fun b => H' b ∨ G b) w1 w3) (hg3 : ∀ b, H3 b → (H' b ∨ G b) ∨ w1.heap.size ≤ b) :
    Keeps H W w3 ∧ ∀ b, H3 b → H b ∨ W.heap.size ≤ b := by
  refine ⟨hk.trans hk3 fun i hi h => ?_, fun b hb => ?_⟩
  · rcases h with h | h
    · rcases hg i h with h | h
      · exact h
      · omega
    · have := hG i h; omega
  · have := hk.size
    rcases hg3 b hb with (h | h) | h
    · exact hg b h
    · exact .inr (hG b h)
    · exact .inr (by omega)

theorem room_of_none {F : Fence} (hd : F.depth = none) (k : Nat) : F.room k := fun d h => by rw [hd] at h; cases h
theorem RoundIn.anyDepth {F : Fence} (hd : F.depth = none) {m m' : Nat} {P : Program} {l : Nat} {f : FuncId} {tmps : Array Value} {assign body : Code} {w : World} {R : Ending → World → Prop}
    (h : RoundIn F m P l f tmps assign body w R) : RoundIn F m' P l f tmps assign body w R := ⟨h.1, fun c cs _ => h.2 c cs (room_of_none hd _)⟩
theorem YieldAt.anyDepth {F : Fence} (hd : F.depth = none) {m : Nat} (m' : Nat) {P : Program} {l : Nat} {args : Array Value} {W : World} {R : Ending → World → Prop} (h : YieldAt F m P l args W R) : YieldAt F m' P l args W R := by
  obtain ⟨fn, tmps, assign, body, hy, hR⟩ := h
  exact ⟨fn, tmps, assign, body, hy, RoundIn.anyDepth hd hR⟩

/-- how a round's body may end -/
def RoundEnd (HG : Blks) (sz : Nat) (I : Blks → World → Prop) (Ix : Code → Blks → World → Prop) (W : World) : Exit → Act → World → Prop
  | .normal, _, W' => Keeps HG W W' ∧ ∃ H', (∀ b, H' b → HG b ∨ sz ≤ b) ∧ I H' W'
  | .ret, _, W' => Keeps HG W W' ∧ ∃ H', (∀ b, H' b → HG b ∨ sz ≤ b) ∧ Ix .ret H' W'
  | .exit id, _, W' => Keeps HG W W' ∧ ∃ H', (∀ b, H' b → HG b ∨ sz ≤ b) ∧ Ix (.exit id) H' W'
  | .goto t, _, W' => Keeps HG W W' ∧ ∃ H', (∀ b, H' b → HG b ∨ sz ≤ b) ∧ Ix (.goto t) H' W'
  | .panic _, _, _ => False
  | .outgrown, _, _ => False

variable {n : Nat} {P : Program} {w : World}

/-- one round of a loop over an iterator, the loop's record being block L; held: the blocks of the loop's own -/
theorem round_turn {α : Type} {assign body : Code} {tmps : Array Value} {ps : Array Tmp} {fn : FuncId} {L : Nat} {rec : LoopState → Option Code → Loop} {D : Nat}
    (hrec : rec = fun st pe => { state := st, pending := pe, fn, tmps := tmps, params := ps, assign, body, defers := D })
    {held : Blks} (hheldL : held L) (B0 : World → Prop) (hB0 : ∀ V V' : World, B0 V → (∀ b, held b → b ≠ L → V'.heap[b]? = V.heap[b]?) → B0 V')
    {Rd : Blks} (hRL : ¬ Rd L) {I : List α → Blks → World → Prop} {Ix : Code → Blks → World → Prop} (hI : ∀ pre, Foot Rd (I pre)) (hIx : ∀ c, Foot Rd (Ix c))
    {pre : List α} {x : α} {H G : Blks} {V : World} {vs : Array Value} (hvs : vs.size = ps.size)
    (hHL : ∀ b, held b → ¬ H b) (hGL : ∀ b, held b → ¬ G b) (hlt : ∀ b, held b → b < V.heap.size) (hL : V.heap[L]? = some (.loop (rec .ready none))) (hD : B0 V)
    (hround : ∀ (K : Act → World → Prop), (∀ a' V1, Keeps (fun b => H b ∨ G b) V V1 → (∀ r, body.wpIn (Fence.wide.inRound L) n P (RoundEnd (fun b => H b ∨ G b) V.heap.size (I (pre ++ [x])) Ix (V1.putObj L (.loop r))) a' (V1.putObj L (.loop r))) → K a' V1) →
      assign.wpIn (Fence.wide.inRound L) n P (Exit.then K (fun _ _ _ => False)) { tmps := (ps.zip vs).foldl (fun t (p, v) => t.setIfInBounds p v) tmps, defers := [] } V) :
    YieldAt Fence.wide 0 P L vs V (Turn (fun b => (H b ∨ held b) ∨ G b) V
      (fun H' V' => ∃ H, I (pre ++ [x]) H V' ∧ H' = (fun b => H b ∨ held b) ∧ (∀ b, held b → ¬ H b ∧ b < V'.heap.size) ∧ V'.heap[L]? = some (.loop (rec .ready none)) ∧ B0 V')
      (fun H' V' => ∃ H c, Ix c H V' ∧ H' = (fun b => H b ∨ held b) ∧ (∀ b, held b → ¬ H b ∧ b < V'.heap.size) ∧ V'.heap[L]? = some (.loop (rec .done (some c))) ∧ B0 V')) := by
  have hy := run_yield (P := P) (args := vs) hL (by rw [hrec]; exact hvs)
  rw [hrec] at hy
  refine ⟨fn, _, assign, body, hy, RoundIn.anyDepth rfl (roundIn_of_wpIn (F := Fence.wide) (n := n) trivial (hround _ ?_))⟩
  clear hround hy
  intro a' V1 hk1 hbody
  have hL1 : V1.heap[L]? = some (.loop (rec .ready none)) := (hk1.block L (hlt L hheldL) (fun e => e.elim (hHL L hheldL) (hGL L hheldL))).trans hL
  have hlt1 : L < V1.heap.size := (Array.getElem?_eq_some_iff.1 hL1).1
  refine ⟨_, run_beginRound hL1 (by rw [hrec]), ?_⟩
  obtain ⟨busy, hbusy⟩ : ∃ busy, busy = ({ rec .ready none with state := .busy } : Loop) := ⟨_, rfl⟩
  rw [← hbusy]
  have hL2 : (V1.putObj L (.loop busy)).heap[L]? = some (.loop busy) := World.putObj_heap_same hlt1
  have hk2 : Keeps (fun b => (H b ∨ held b) ∨ G b) V (V1.putObj L (.loop busy)) :=
    (hk1.mono fun i _ h => h.elim (fun h => .inl (.inl h)) .inr).trans (keeps_putObj (H := fun b => (H b ∨ held b) ∨ G b) V1 L _ (.inl (.inr hheldL))) fun _ _ h => h
  refine wpIn_mono (hbody busy) ?_
  have fin : ∀ (jump : Option Code) (V3 : World), Keeps (fun b => H b ∨ G b) (V1.putObj L (.loop busy)) V3 →
      (Instr.endRound L jump).run P V3 = .ok (.bool jump.isNone) (V3.putObj L (.loop (rec (if jump.isNone then .ready else .done) jump))) ∧
      (V3.putObj L (.loop (rec (if jump.isNone then .ready else .done) jump))).heap[L]? = some (.loop (rec (if jump.isNone then .ready else .done) jump)) ∧
      Keeps (fun b => (H b ∨ held b) ∨ G b) V (V3.putObj L (.loop (rec (if jump.isNone then .ready else .done) jump))) ∧
      (B0 (V3.putObj L (.loop (rec (if jump.isNone then .ready else .done) jump)))) ∧ (∀ b, held b → b < V3.heap.size) := fun jump V3 hk3 => by
    have hL3 := (hk3.block L (by simpa using hlt1) (fun e => e.elim (hHL L hheldL) (hGL L hheldL))).trans hL2
    have hr := run_endRound (P := P) jump hL3
    have hlt3 := (Array.getElem?_eq_some_iff.1 hL3).1
    refine ⟨?_, World.putObj_heap_same hlt3, ?_, ?_, fun b hb => ?_⟩
    · rw [hr, hbusy, hrec]
    · exact (hk2.trans (hk3.mono (K := fun b => (H b ∨ held b) ∨ G b) fun i _ h => h.elim (fun h => .inl (.inl h)) .inr) fun _ _ h => h).trans (keeps_putObj (H := fun b => (H b ∨ held b) ∨ G b) V3 L _ (.inl (.inr hheldL))) fun _ _ h => h
    · refine hB0 V _ hD fun b hb hne => ?_
      have hbl := hlt b hb
      rw [World.putObj_heap_other hne, hk3.block b (by have := hk1.size; simp; omega) (fun e => e.elim (hHL b hb) (hGL b hb)), World.putObj_heap_other hne]
      exact hk1.block b hbl (fun e => e.elim (hHL b hb) (hGL b hb))
    · have := hlt b hb
      have := hk1.size
      have := hk3.size
      simp at this
      omega
  have app : ∀ (H' : Blks) (V3 : World), (∀ b, H' b → (H b ∨ G b) ∨ V.heap.size ≤ b) → (∀ b, held b → ¬ H' b) := fun H' V3 h b hb e => by
    rcases h b e with (h1 | h1) | h1
    · exact hHL b hb h1
    · exact hGL b hb h1
    · have := hlt b hb; omega
  have grow : ∀ (H' : Blks), (∀ b, H' b → (H b ∨ G b) ∨ V.heap.size ≤ b) → ∀ b, (H' b ∨ held b) → ((H b ∨ held b) ∨ G b) ∨ V.heap.size ≤ b := fun H' h b hb => by
    rcases hb with hb | hb
    · rcases h b hb with (h1 | h1) | h1
      · exact .inl (.inl (.inl h1))
      · exact .inl (.inr h1)
      · exact .inr h1
    · exact .inl (.inl (.inr hb))
  have put : ∀ {J : Blks → World → Prop} (hJ : Foot Rd J) (H' : Blks) (V3 : World) (o : Obj), J H' V3 → (∀ b, H' b → (H b ∨ G b) ∨ V.heap.size ≤ b) → J H' (V3.putObj L o) := fun hJ H' V3 o hj h =>
    hJ.keep hj (by simp) fun b hb => World.putObj_heap_other fun e => hb.elim (fun hb => app H' V3 h L hheldL (e ▸ hb)) (fun hb => hRL (e ▸ hb))
  rintro e a3 V3 hp
  cases e with
  | normal =>
    obtain ⟨hk3, H', hg, hi⟩ := hp
    obtain ⟨hr, hl4, hk4, hb4, hlt4⟩ := fin none V3 hk3
    exact ⟨_, _, hr, hk4, _, grow H' hg, .inl ⟨rfl, H', put (hI _) H' V3 _ hi hg, rfl, fun b hb => ⟨app H' V3 hg b hb, by simpa using hlt4 b hb⟩, hl4, hb4⟩⟩
  | ret =>
    obtain ⟨hk3, H', hg, hi⟩ := hp
    obtain ⟨hr, hl4, hk4, hb4, hlt4⟩ := fin (some .ret) V3 hk3
    exact ⟨_, _, hr, hk4, _, grow H' hg, .inr ⟨rfl, H', .ret, put (hIx _) H' V3 _ hi hg, rfl, fun b hb => ⟨app H' V3 hg b hb, by simpa using hlt4 b hb⟩, hl4, hb4⟩⟩
  | exit id =>
    obtain ⟨hk3, H', hg, hi⟩ := hp
    obtain ⟨hr, hl4, hk4, hb4, hlt4⟩ := fin (some (.exit id)) V3 hk3
    exact ⟨_, _, hr, hk4, _, grow H' hg, .inr ⟨rfl, H', .exit id, put (hIx _) H' V3 _ hi hg, rfl, fun b hb => ⟨app H' V3 hg b hb, by simpa using hlt4 b hb⟩, hl4, hb4⟩⟩
  | goto t =>
    obtain ⟨hk3, H', hg, hi⟩ := hp
    obtain ⟨hr, hl4, hk4, hb4, hlt4⟩ := fin (some (.goto t)) V3 hk3
    exact ⟨_, _, hr, hk4, _, grow H' hg, .inr ⟨rfl, H', .goto t, put (hIx _) H' V3 _ hi hg, rfl, fun b hb => ⟨app H' V3 hg b hb, by simpa using hlt4 b hb⟩, hl4, hb4⟩⟩
  | panic ch => exact hp.elim
  | outgrown => exact hp.elim

theorem foot_held {α : Type} {β : Type} {Rd Rd' : Blks} (hRd : ∀ b, Rd b → Rd' b) {I : α → Blks → World → Prop} (hI : ∀ s, Foot Rd (I s)) (held : Blks) (C : β → World → Prop) (hC : ∀ c V V', C c V → (∀ b, held b → V'.heap[b]? = V.heap[b]?) → C c V') (f : β → α) :
    Foot Rd' (fun H' V' => ∃ (H : Blks) (c : β), I (f c) H V' ∧ H' = (fun b => H b ∨ held b) ∧ (∀ b, held b → ¬ H b ∧ b < V'.heap.size) ∧ C c V') := by
  rintro H' V ⟨H, c, hi, rfl, hh, hc⟩
  refine ⟨fun b hb => hb.elim (fun h => (hI _).lt hi h) (fun h => (hh b h).2), fun V' hs hb => ⟨H, c, (hI _).keep hi hs fun b h => hb b (h.elim (fun h => .inl (.inl h)) (fun h => .inr (hRd b h))), rfl, fun b h => ⟨(hh b h).1, Nat.lt_of_lt_of_le (hh b h).2 hs⟩, hC c V V' hc fun b h => hb b (.inl (.inr h))⟩⟩

/-- a loop over an iterator, not within another one -/
theorem wpIn_visits {α : Type} {g : Operand} {ps : Array Tmp} {assign body : Code} {Q : Exit → Act → World → Prop} {a : Act} {gf : Nat} {ba lb : Array Value}
    (hg : a.eval g = .func (.func gf) ba lb) (eg : ∀ args u, (callFunc gf args).run P u = .ok (.enter gf args) u)
    {xs : List α} {R : α → Blks → World → Array Value → Prop} {O : Blks} (hseq : Visits P gf ba lb xs R O w) (hps : ∀ x G V vs, R x G V vs → vs.size = ps.size)
    (I : List α → Blks → World → Prop) (Ix : Code → Blks → World → Prop) (hI : ∀ pre, Foot (fun b => b < w.heap.size) (I pre)) (hIx : ∀ c, Foot (fun b => b < w.heap.size) (Ix c)) (H0 : Blks) (h0 : I [] H0 w) (hO : ∀ b, O b → ¬ H0 b ∧ b < w.heap.size)
    (hround : ∀ (l : Nat) (pre : List α) (x : α) (H G : Blks) (vs : Array Value) (V : World) (K : Act → World → Prop), w.heap.size ≤ l → (∃ r, V.heap[l]? = some (.loop r)) → ¬ H l → ¬ G l → I pre H V → pre ++ [x] <+: xs → R x G V vs → (∀ b, G b → ¬ H b ∧ b < V.heap.size) →
      (∀ a' V1, Keeps (fun b => H b ∨ G b) V V1 → (∀ r, body.wpIn (Fence.wide.inRound l) n P (RoundEnd (fun b => H b ∨ G b) V.heap.size (I (pre ++ [x])) Ix (V1.putObj l (.loop r))) a' (V1.putObj l (.loop r))) → K a' V1) →
      assign.wpIn (Fence.wide.inRound l) n P (Exit.then K (fun _ _ _ => False)) { tmps := (ps.zip vs).foldl (fun t (p, v) => t.setIfInBounds p v) a.tmps, defers := [] } V)
    (hdone : ∀ (D : Nat) (H : Blks) (W : World), w.heap.size ≤ D → ¬ H D → (∀ b, H b → H0 b ∨ w.heap.size ≤ b) → I xs H W → Keeps H0 w W → W.heap[D]? = some (.deferred (some [])) → Q .normal { a with defers := { target := .collected D, args := #[] } :: a.defers } W)
    (hstop : ∀ (D : Nat) (c : Code) (H : Blks) (W : World), w.heap.size ≤ D → ¬ H D → (∀ b, H b → H0 b ∨ w.heap.size ≤ b) → Ix c H W → Keeps H0 w W → W.heap[D]? = some (.deferred (some [])) → c.wpIn Fence.wide n P Q { a with defers := { target := .collected D, args := #[] } :: a.defers } W) :
    (Code.rangeFunc g ps assign body).wpIn Fence.wide n P Q a w := by
  refine wpIn_rangeFunc ?_
  intro fn hfn
  rw [show Fence.wide.round = none from rfl]
  obtain ⟨rec, hrec⟩ : ∃ rec : LoopState → Option Code → Loop, rec = fun st pe => { state := st, pending := pe, fn, tmps := a.tmps, params := ps, assign, body, defers := w.heap.size } := ⟨_, rfl⟩
  obtain ⟨W1, hW1⟩ : ∃ W1, (w.alloc (.deferred (some []))).alloc (.loop (rec .ready none)) = W1 := ⟨_, rfl⟩
  have hL1 : W1.heap[w.heap.size + 1]? = some (.loop (rec .ready none)) := by
    rw [← hW1]; have := World.alloc_heap_new (w.alloc (.deferred (some []))) (.loop (rec .ready none)); rwa [World.size_alloc] at this
  have hK1 : W1.heap[w.heap.size]? = some (.deferred (some [])) := by
    rw [← hW1]; exact (Below.heap_alloc _ _ _ (by simp)).trans (World.alloc_heap_new w _)
  have hb1 : Below w.heap.size w W1 := by rw [← hW1]; exact ((Below.refl _ w).alloc (Nat.le_refl _) _).alloc (by simp) _
  have hs1 : W1.heap.size = w.heap.size + 2 := by rw [← hW1]; simp
  have hlt0 : ∀ b, H0 b → b < w.heap.size := fun b hb => (hI []).lt h0 hb
  obtain ⟨held, hheld⟩ : ∃ held : Blks, held = fun b => b = w.heap.size ∨ b = w.heap.size + 1 := ⟨_, rfl⟩
  have hhL : held (w.heap.size + 1) := by rw [hheld]; exact .inr rfl
  have hhD : held w.heap.size := by rw [hheld]; exact .inl rfl
  have hhge : ∀ b, held b → w.heap.size ≤ b ∧ b < w.heap.size + 2 := by rw [hheld]; rintro b (rfl | rfl) <;> omega
  refine ⟨w.heap.size + 1, [{ target := .collected w.heap.size, args := #[] }], W1, { target := .fn (.func gf) lb, args := ba ++ #[.func (.yield (w.heap.size + 1)) #[] #[]] }, W1, gf,
    ba ++ #[.func (.yield (w.heap.size + 1)) #[] #[]] ++ lb, W1, ?_, ?_, ?_, ?_, (fun h => by cases h), ?_⟩
  · rw [← hW1, hrec]; exact run_enterLoop_outer _ _ _ _ _
  · simp only [resolve, hg]
    simp [go_sem]
  · intro f' _; trivial
  · simp [invoke, go_sem, eg]
  · refine (callsIn_wide.2 (hseq (w.heap.size + 1)
      (fun pre H' V' => ∃ (H : Blks) (_ : Unit), I pre H V' ∧ H' = (fun b => H b ∨ held b) ∧ (∀ b, held b → ¬ H b ∧ b < V'.heap.size) ∧ V'.heap[w.heap.size + 1]? = some (.loop (rec .ready none)) ∧ V'.heap[w.heap.size]? = some (.deferred (some [])))
      (fun H' V' => ∃ (H : Blks) (c : Code), Ix c H V' ∧ H' = (fun b => H b ∨ held b) ∧ (∀ b, held b → ¬ H b ∧ b < V'.heap.size) ∧ V'.heap[w.heap.size + 1]? = some (.loop (rec .done (some c))) ∧ V'.heap[w.heap.size]? = some (.deferred (some [])))
      (fun b => H0 b ∨ held b) W1 hb1 (fun pre => foot_held (fun b hb => Nat.lt_of_lt_of_le hb hb1.size) hI held (fun (_ : Unit) V' => V'.heap[w.heap.size + 1]? = some (.loop (rec .ready none)) ∧ V'.heap[w.heap.size]? = some (.deferred (some []))) (fun _ V V' h hb => ⟨(hb _ hhL).trans h.1, (hb _ hhD).trans h.2⟩) (fun _ => pre))
      (foot_held (α := Code) (fun b hb => Nat.lt_of_lt_of_le hb hb1.size) hIx held (fun c V' => V'.heap[w.heap.size + 1]? = some (.loop (rec .done (some c))) ∧ V'.heap[w.heap.size]? = some (.deferred (some []))) (fun _ V V' h hb => ⟨(hb _ hhL).trans h.1, (hb _ hhD).trans h.2⟩) id)
      (fun b hb e => e.elim (hO b hb).1 (fun e => by have := (hhge b e).1; have := (hO b hb).2; omega)) ?_
      ⟨H0, (), (hI []).below h0 (fun _ h => h) hb1, rfl, fun b hb => ⟨fun e => by have := hlt0 b e; have := (hhge b hb).1; omega, by have := (hhge b hb).2; omega⟩, hL1, hK1⟩)).mono ?_
    · rintro pre x H' V G vs ⟨H, _, hi, rfl, hh, hl, hd⟩ hx hR hG
      have := round_turn (n := n) (P := P) (L := w.heap.size + 1) (D := w.heap.size) hrec (held := held) hhL (fun V => V.heap[w.heap.size]? = some (.deferred (some []))) (fun V V' h hb => (hb _ hhD (by omega)).trans h) (Rd := fun b => b < w.heap.size) (Nat.not_lt.2 (by omega)) hI hIx (pre := pre) (x := x) (H := H) (G := G) (V := V) (vs := vs) (hps x G V vs hR)
        (fun b hb => (hh b hb).1) (fun b hb e => (hG b e).1 (.inr hb)) (fun b hb => (hh b hb).2) hl hd
        (fun K hK => hround (w.heap.size + 1) pre x H G vs V K (by omega) ⟨_, hl⟩ (hh _ hhL).1 (fun e => (hG _ e).1 (.inr hhL)) hi hx hR (fun b hb => ⟨fun e => (hG b hb).1 (.inl e), (hG b hb).2⟩) hK)
      obtain ⟨fn', t', as', bd', h1, h2⟩ := this
      refine ⟨fn', t', as', bd', h1, h2.mono ?_⟩
      rintro e V' ⟨hk, H', hg, hres⟩
      refine ⟨hk, H', hg, ?_⟩
      rcases hres with ⟨he, H2, a1, a2, a3, a4, a5⟩ | ⟨he, H2, c, a1, a2, a3, a4, a5⟩
      · exact .inl ⟨he, H2, (), a1, a2, a3, a4, a5⟩
      · exact .inr ⟨he, H2, c, a1, a2, a3, a4, a5⟩
    · have kp : ∀ (W2 : World) (o : Obj), Keeps (fun b => H0 b ∨ held b) W1 W2 → Keeps H0 w (W2.putObj (w.heap.size + 1) o) := fun W2 o hk => by
        have h2 : Keeps (fun b => H0 b ∨ held b) w (W2.putObj (w.heap.size + 1) o) := ((Keeps.of_below' _ hb1).trans hk fun _ _ h => h).trans (keeps_putObj (H := fun b => H0 b ∨ held b) W2 _ o (.inr hhL)) fun _ _ h => h
        exact h2.mono fun i hi h => by
          rcases h with h | h
          · exact h
          · have := (hhge i h).1; omega
      have gr : ∀ (H : Blks), (∀ b, (H b ∨ held b) → (H0 b ∨ held b) ∨ W1.heap.size ≤ b) → (∀ b, held b → ¬ H b) → ∀ b, H b → H0 b ∨ w.heap.size ≤ b := fun H h hn b hb => by
        rcases h b (.inl hb) with (h1 | h1) | h1
        · exact .inl h1
        · exact absurd hb (hn b h1)
        · exact .inr (by omega)
      rintro e W2 ⟨⟨v, rfl⟩, hk, H', hg, (⟨H, _, hi, rfl, hh, hl, hd⟩ | ⟨H, c, hi, rfl, hh, hl, hd⟩)⟩
      · exact ⟨none, _, by have := run_endLoop (P := P) hl (by rw [hrec]; simp); rw [hrec] at this; exact this,
          hdone _ H _ (Nat.le_refl _) (hh _ hhD).1 (gr H hg fun b hb => (hh b hb).1) ((hI _).keep hi (by simp) fun b hb => World.putObj_heap_other fun e => hb.elim (fun hb => (hh _ hhL).1 (by rw [← e]; exact hb)) (fun hb => by omega)) (kp _ _ hk) ((World.putObj_heap_other (by omega)).trans hd)⟩
      · exact ⟨some c, _, by have := run_endLoop (P := P) hl (by rw [hrec]; simp); rw [hrec] at this; exact this,
          hstop _ c H _ (Nat.le_refl _) (hh _ hhD).1 (gr H hg fun b hb => (hh b hb).1) ((hIx c).keep hi (by simp) fun b hb => World.putObj_heap_other fun e => hb.elim (fun hb => (hh _ hhL).1 (by rw [← e]; exact hb)) (fun hb => by omega)) (kp _ _ hk) ((World.putObj_heap_other (by omega)).trans hd)⟩

/-- a loop over an iterator within a round of another one -/
theorem wpIn_visits_in {α : Type} {g : Operand} {ps : Array Tmp} {assign body : Code} {Q : Exit → Act → World → Prop} {a : Act} {gf : Nat} {ba lb : Array Value} {l₀ : Nat} (hl₀ : ∃ r, w.heap[l₀]? = some (.loop r))
    (hg : a.eval g = .func (.func gf) ba lb) (eg : ∀ args u, (callFunc gf args).run P u = .ok (.enter gf args) u)
    {xs : List α} {R : α → Blks → World → Array Value → Prop} {O : Blks} (hseq : Visits P gf ba lb xs R O w) (hps : ∀ x G V vs, R x G V vs → vs.size = ps.size)
    (I : List α → Blks → World → Prop) (Ix : Code → Blks → World → Prop) (hI : ∀ pre, Foot (fun b => b < w.heap.size) (I pre)) (hIx : ∀ c, Foot (fun b => b < w.heap.size) (Ix c)) (H0 : Blks) (h0 : I [] H0 w) (hO : ∀ b, O b → ¬ H0 b ∧ b < w.heap.size)
    (hround : ∀ (l : Nat) (pre : List α) (x : α) (H G : Blks) (vs : Array Value) (V : World) (K : Act → World → Prop), w.heap.size ≤ l → (∃ r, V.heap[l]? = some (.loop r)) → ¬ H l → ¬ G l → I pre H V → pre ++ [x] <+: xs → R x G V vs → (∀ b, G b → ¬ H b ∧ b < V.heap.size) →
      (∀ a' V1, Keeps (fun b => H b ∨ G b) V V1 → (∀ r, body.wpIn (Fence.wide.inRound l) n P (RoundEnd (fun b => H b ∨ G b) V.heap.size (I (pre ++ [x])) Ix (V1.putObj l (.loop r))) a' (V1.putObj l (.loop r))) → K a' V1) →
      assign.wpIn (Fence.wide.inRound l) n P (Exit.then K (fun _ _ _ => False)) { tmps := (ps.zip vs).foldl (fun t (p, v) => t.setIfInBounds p v) a.tmps, defers := [] } V)
    (hdone : ∀ (H : Blks) (W : World), (∀ b, H b → H0 b ∨ w.heap.size ≤ b) → I xs H W → Keeps H0 w W → Q .normal a W)
    (hstop : ∀ (c : Code) (H : Blks) (W : World), (∀ b, H b → H0 b ∨ w.heap.size ≤ b) → Ix c H W → Keeps H0 w W → c.wpIn (Fence.wide.inRound l₀) n P Q a W) :
    (Code.rangeFunc g ps assign body).wpIn (Fence.wide.inRound l₀) n P Q a w := by
  obtain ⟨r₀, hl₀⟩ := hl₀
  refine wpIn_rangeFunc ?_
  intro fn hfn
  rw [show (Fence.wide.inRound l₀).round = some l₀ from rfl]
  obtain ⟨rec, hrec⟩ : ∃ rec : LoopState → Option Code → Loop, rec = fun st pe => { state := st, pending := pe, fn, tmps := a.tmps, params := ps, assign, body, defers := r₀.defers } := ⟨_, rfl⟩
  obtain ⟨W1, hW1⟩ : ∃ W1, w.alloc (.loop (rec .ready none)) = W1 := ⟨_, rfl⟩
  have hL1 : W1.heap[w.heap.size]? = some (.loop (rec .ready none)) := by rw [← hW1]; exact World.alloc_heap_new w _
  have hb1 : Below w.heap.size w W1 := by rw [← hW1]; exact (Below.refl _ w).alloc (Nat.le_refl _) _
  have hs1 : W1.heap.size = w.heap.size + 1 := by rw [← hW1]; simp
  have hlt0 : ∀ b, H0 b → b < w.heap.size := fun b hb => (hI []).lt h0 hb
  obtain ⟨held, hheld⟩ : ∃ held : Blks, held = fun b => b = w.heap.size := ⟨_, rfl⟩
  have hhL : held w.heap.size := by rw [hheld]
  have hhge : ∀ b, held b → b = w.heap.size := by rw [hheld]; exact fun _ h => h
  refine ⟨w.heap.size, [], W1, { target := .fn (.func gf) lb, args := ba ++ #[.func (.yield w.heap.size) #[] #[]] }, W1, gf,
    ba ++ #[.func (.yield w.heap.size) #[] #[]] ++ lb, W1, ?_, ?_, ?_, ?_, (fun h => by cases h), ?_⟩
  · rw [← hW1, hrec]; exact run_enterLoop_inner hl₀ _ _ _ _ _
  · simp only [resolve, hg]
    simp [go_sem]
  · intro f' _; trivial
  · simp [invoke, go_sem, eg]
  · refine (CallsIn.inRound l₀ (callsIn_wide.2 (hseq w.heap.size
      (fun pre H' V' => ∃ (H : Blks) (_ : Unit), I pre H V' ∧ H' = (fun b => H b ∨ held b) ∧ (∀ b, held b → ¬ H b ∧ b < V'.heap.size) ∧ V'.heap[w.heap.size]? = some (.loop (rec .ready none)))
      (fun H' V' => ∃ (H : Blks) (c : Code), Ix c H V' ∧ H' = (fun b => H b ∨ held b) ∧ (∀ b, held b → ¬ H b ∧ b < V'.heap.size) ∧ V'.heap[w.heap.size]? = some (.loop (rec .done (some c))))
      (fun b => H0 b ∨ held b) W1 hb1 (fun pre => foot_held (fun b hb => Nat.lt_of_lt_of_le hb hb1.size) hI held (fun (_ : Unit) V' => V'.heap[w.heap.size]? = some (.loop (rec .ready none))) (fun _ V V' h hb => (hb _ hhL).trans h) (fun _ => pre))
      (foot_held (α := Code) (fun b hb => Nat.lt_of_lt_of_le hb hb1.size) hIx held (fun c V' => V'.heap[w.heap.size]? = some (.loop (rec .done (some c)))) (fun _ V V' h hb => (hb _ hhL).trans h) id)
      (fun b hb e => e.elim (hO b hb).1 (fun e => by have := hhge b e; have := (hO b hb).2; omega)) ?_
      ⟨H0, (), (hI []).below h0 (fun _ h => h) hb1, rfl, fun b hb => ⟨fun e => by have := hlt0 b e; have := hhge b hb; omega, by have := hhge b hb; omega⟩, hL1⟩))).mono ?_
    · rintro pre x H' V G vs ⟨H, _, hi, rfl, hh, hl⟩ hx hR hG
      have := round_turn (n := n) (P := P) (L := w.heap.size) (D := r₀.defers) hrec (held := held) hhL (fun _ => True) (fun _ _ _ _ => trivial) (Rd := fun b => b < w.heap.size) (Nat.not_lt.2 (by omega)) hI hIx (pre := pre) (x := x) (H := H) (G := G) (V := V) (vs := vs) (hps x G V vs hR)
        (fun b hb => (hh b hb).1) (fun b hb e => (hG b e).1 (.inr hb)) (fun b hb => (hh b hb).2) hl trivial
        (fun K hK => hround w.heap.size pre x H G vs V K (Nat.le_refl _) ⟨_, hl⟩ (hh _ hhL).1 (fun e => (hG _ e).1 (.inr hhL)) hi hx hR (fun b hb => ⟨fun e => (hG b hb).1 (.inl e), (hG b hb).2⟩) hK)
      obtain ⟨fn', t', as', bd', h1, h2⟩ := this
      refine ⟨fn', t', as', bd', h1, h2.mono ?_⟩
      rintro e V' ⟨hk, H', hg, hres⟩
      refine ⟨hk, H', hg, ?_⟩
      rcases hres with ⟨he, H2, a1, a2, a3, a4, _⟩ | ⟨he, H2, c, a1, a2, a3, a4, _⟩
      · exact .inl ⟨he, H2, (), a1, a2, a3, a4⟩
      · exact .inr ⟨he, H2, c, a1, a2, a3, a4⟩
    · have kp : ∀ (W2 : World) (o : Obj), Keeps (fun b => H0 b ∨ held b) W1 W2 → Keeps H0 w (W2.putObj w.heap.size o) := fun W2 o hk => by
        have h2 : Keeps (fun b => H0 b ∨ held b) w (W2.putObj w.heap.size o) := ((Keeps.of_below' _ hb1).trans hk fun _ _ h => h).trans (keeps_putObj (H := fun b => H0 b ∨ held b) W2 _ o (.inr hhL)) fun _ _ h => h
        exact h2.mono fun i hi h => by
          rcases h with h | h
          · exact h
          · have := hhge i h; omega
      have gr : ∀ (H : Blks), (∀ b, (H b ∨ held b) → (H0 b ∨ held b) ∨ W1.heap.size ≤ b) → (∀ b, held b → ¬ H b) → ∀ b, H b → H0 b ∨ w.heap.size ≤ b := fun H h hn b hb => by
        rcases h b (.inl hb) with (h1 | h1) | h1
        · exact .inl h1
        · exact absurd hb (hn b h1)
        · exact .inr (by omega)
      rintro e W2 ⟨⟨v, rfl⟩, hk, H', hg, (⟨H, _, hi, rfl, hh, hl⟩ | ⟨H, c, hi, rfl, hh, hl⟩)⟩
      · exact ⟨none, _, by have := run_endLoop (P := P) hl (by rw [hrec]; simp); rw [hrec] at this; exact this,
          hdone H _ (gr H hg fun b hb => (hh b hb).1) ((hI _).keep hi (by simp) fun b hb => World.putObj_heap_other fun e => hb.elim (fun hb => (hh _ hhL).1 (by rw [← e]; exact hb)) (fun hb => by omega)) (kp _ _ hk)⟩
      · exact ⟨some c, _, by have := run_endLoop (P := P) hl (by rw [hrec]; simp); rw [hrec] at this; exact this,
          hstop c H _ (gr H hg fun b hb => (hh b hb).1) ((hIx c).keep hi (by simp) fun b hb => World.putObj_heap_other fun e => hb.elim (fun hb => (hh _ hhL).1 (by rw [← e]; exact hb)) (fun hb => by omega)) (kp _ _ hk)⟩

end Go.Proofs.YtaeelanbkdkppaaDoor

/-
  Arrays of 40 sets in memory.
-/
namespace Go.Proofs.YtaeelanbkdkppaaDoor
open Go.RowKit

/-- for each node a set -/
abbrev Chs := Choices
def chL (c : Chs) : List Value := (List.range 40).map fun k => .int .u64 (c k : Int)
def chA (c : Chs) : Array Value := (chL c).toArray
theorem chL_length (c : Chs) : (chL c).length = 40 := by simp [chL]
theorem chA_size (c : Chs) : (chA c).size = 40 := by simp [chA, chL_length]
theorem ch_zero : #[Value.int IntKind.u64 0, Value.int IntKind.u64 0, Value.int IntKind.u64 0, Value.int IntKind.u64 0, Value.int IntKind.u64 0, Value.int IntKind.u64 0, Value.int IntKind.u64 0, Value.int IntKind.u64 0, Value.int IntKind.u64 0, Value.int IntKind.u64 0, Value.int IntKind.u64 0, Value.int IntKind.u64 0, Value.int IntKind.u64 0, Value.int IntKind.u64 0, Value.int IntKind.u64 0, Value.int IntKind.u64 0, Value.int IntKind.u64 0, Value.int IntKind.u64 0, Value.int IntKind.u64 0, Value.int IntKind.u64 0, Value.int IntKind.u64 0, Value.int IntKind.u64 0, Value.int IntKind.u64 0, Value.int IntKind.u64 0, Value.int IntKind.u64 0, Value.int IntKind.u64 0, Value.int IntKind.u64 0, Value.int IntKind.u64 0, Value.int IntKind.u64 0, Value.int IntKind.u64 0, Value.int IntKind.u64 0, Value.int IntKind.u64 0, Value.int IntKind.u64 0, Value.int IntKind.u64 0, Value.int IntKind.u64 0, Value.int IntKind.u64 0, Value.int IntKind.u64 0, Value.int IntKind.u64 0, Value.int IntKind.u64 0, Value.int IntKind.u64 0] = chA fun _ => 0 := by kernel_rfl
theorem chL_get (c : Chs) {i : Nat} (hi : i < 40) : (chL c)[i]? = some (.int .u64 (c i : Int)) := by
  unfold chL
  rw [List.getElem?_map, List.getElem?_range hi]
  rfl
theorem chA_get (c : Chs) {i : Nat} (hi : i < 40) : (chA c)[i]? = some (.int .u64 (c i : Int)) := by
  unfold chA
  rw [List.getElem?_toArray]
  exact chL_get c hi
theorem chL_set (c : Chs) {i : Nat} (x : Nat) : (chL c).set i (.int .u64 (x : Int)) = chL (upd c i x) := by
  apply List.ext_getElem?
  intro k
  by_cases hk : k < 40
  · rw [List.getElem?_set]
    unfold chL
    rw [List.length_map, List.length_range, List.getElem?_map, List.getElem?_map, List.getElem?_range hk]
    simp only [Option.map_some, upd]
    by_cases e : i = k
    · rw [if_pos e, if_pos (by omega), if_pos e.symm]
    · rw [if_neg e, if_neg (fun h => e h.symm)]
  · rw [List.getElem?_eq_none (by rw [List.length_set, chL_length]; omega), List.getElem?_eq_none (by rw [chL_length]; omega)]
theorem chA_set (c : Chs) {i : Nat} (x : Nat) : (chA c).setIfInBounds i (.int .u64 (x : Int)) = chA (upd c i x) := by
  unfold chA
  rw [List.setIfInBounds_toArray, chL_set c]
theorem chA_ext {c d : Chs} (h : ∀ i, i < 40 → c i = d i) : chA c = chA d := by
  unfold chA chL
  congr 1
  apply List.map_congr_left
  intro k hk
  simp only [List.mem_range] at hk
  rw [h k hk]
theorem chA_all (c : Chs) : (chA c).all (·.oneCell') = true := by
  refine all_oneCell_toArray fun v hv => ?_
  simp only [chL, List.mem_map] at hv
  obtain ⟨k, _, rfl⟩ := hv
  rfl
theorem infoCh : (Tryd.prog.info? 108).map (·.size) = some 40 := by kernel_rfl
theorem infoCh' : (Tryd.prog.info? 107).map (·.size) = some 40 := by kernel_rfl

/-- block g is an array c -/
def ChAt (w : World) (t : TypeId) (g : Nat) (c : Chs) : Prop := w.heap[g]? = some (.cells (chA c) t (0, 0))
theorem ChAt.cell {w : World} {t : TypeId} {g : Nat} {c : Chs} (h : ChAt w t g c) {i : Nat} (hi : i < 40) : w.cell? ⟨g, i, none⟩ = some (.int .u64 (c i : Int)) := by
  rw [cell_of_row _ _ _ _ _ _ h, chA_get c hi]
theorem ChAt.free {w : World} {t : TypeId} {g : Nat} {c : Chs} (h : ChAt w t g c) (i : Nat) : w.frozen? ⟨g, i, none⟩ = false := frozen_of_row _ _ _ _ _ h
theorem ChAt.lt {w : World} {t : TypeId} {g : Nat} {c : Chs} (h : ChAt w t g c) : g < w.heap.size := (Array.getElem?_eq_some_iff.1 h).1
theorem ChAt.set {w : World} {t : TypeId} {g : Nat} {c : Chs} (h : ChAt w t g c) (i x : Nat) : ChAt (w.setCell ⟨g, i, none⟩ (.int .u64 (x : Int))) t g (upd c i x) := by
  unfold ChAt
  rw [heap_setCell_same _ _ _ _ _ _ h, chA_set c]
theorem ChAt.other {w : World} {t : TypeId} {g : Nat} {c : Chs} (h : ChAt w t g c) {p : Addr} (hp : g ≠ p.block) (v : Value) : ChAt (w.setCell p v) t g c := by
  unfold ChAt
  rw [heap_setCell_other _ _ _ _ hp]
  exact h
theorem ChAt.ext {w : World} {t : TypeId} {g : Nat} {c d : Chs} (h : ChAt w t g c) (e : ∀ i, i < 40 → c i = d i) : ChAt w t g d := by
  unfold ChAt
  rw [← chA_ext e]
  exact h
theorem ChAt.alloc {w : World} {t : TypeId} {g : Nat} {c : Chs} (h : ChAt w t g c) (o : Obj) : ChAt (w.alloc o) t g c := (Below.heap_alloc w o g h.lt).trans h
theorem ChAt.up {w w' : World} {t : TypeId} {g : Nat} {c : Chs} (h : ChAt w t g c) (hb : Below w.heap.size w w') : ChAt w' t g c := (hb.block g h.lt).trans h
theorem ChAt.new (w : World) (t : TypeId) (c : Chs) : ChAt (w.alloc (.cells (chA c) t)) t w.heap.size c := heap_alloc_new _ _
theorem ChAt.range {w : World} {t : TypeId} {g : Nat} {c : Chs} (h : ChAt w t g c) : w.rangeAt g 0 (chL c) := fun j v hv => by
  rw [Nat.zero_add, cell_of_row _ _ _ _ _ _ h]
  unfold chA
  rw [List.getElem?_toArray]
  exact hv

theorem wpList_load_ch {ops : Array Oper} {rest : List Oper} {o : Oper} {a : Act} {w : World} {Q : Exit → Act → World → Prop} (hgd : o.guard = none) (x : Operand) (ho : o.op = .load 108 x)
    (g : Nat) (c : Chs) (hx : a.eval x = .pointer (some ⟨g, 0, none⟩)) (hg : w.rangeAt g 0 (chL c))
    (h : wpList Tryd.prog ops Q rest (a.put o.dst (.agg (chA c))) w) : wpList Tryd.prog ops Q (o :: rest) a w :=
  wpList_load_mid hgd 108 x ho g 0 hx (chL c) _ hg Tryd.underlying108 rfl (by rw [chL_length]; exact infoCh) h
theorem wpList_load_re {ops : Array Oper} {rest : List Oper} {o : Oper} {a : Act} {w : World} {Q : Exit → Act → World → Prop} (hgd : o.guard = none) (x : Operand) (ho : o.op = .load 107 x)
    (g : Nat) (c : Chs) (hx : a.eval x = .pointer (some ⟨g, 0, none⟩)) (hg : w.rangeAt g 0 (chL c))
    (h : wpList Tryd.prog ops Q rest (a.put o.dst (.agg (chA c))) w) : wpList Tryd.prog ops Q (o :: rest) a w :=
  wpList_load_mid hgd 107 x ho g 0 hx (chL c) _ hg Tryd.underlying107 rfl (by rw [chL_length]; exact infoCh') h
/-- a result of this type, out of its variable -/
theorem results_ch {fn : Func} {p : Tmp} (h : fn.results = #[.cell p 107]) (tmps : Array Value) (w : World) (g : Nat) (c : Chs)
    (hp : tmps.getD p undef = .pointer (some ⟨g, 0, none⟩)) (hg : w.rangeAt g 0 (chL c)) : (results fn tmps).run Tryd.prog w = .ok (.agg (chA c)) w := by
  have hp' : tmps[p]?.getD undef = .pointer (some ⟨g, 0, none⟩) := by simpa using hp
  simp [results, h, hp', asAddr, run_loadVar_mid w g 0 107 (chL c) _ hg Tryd.underlying107 rfl (by rw [chL_length]; exact infoCh'), chA]
theorem results_cb {fn : Func} {p q : Tmp} (h : fn.results = #[.cell p 108, .tmp q]) (tmps : Array Value) (w : World) (g : Nat) (c : Chs) (b : Bool)
    (hp : tmps.getD p undef = .pointer (some ⟨g, 0, none⟩)) (hq : tmps.getD q undef = .bool b) (hg : w.rangeAt g 0 (chL c)) : (results fn tmps).run Tryd.prog w = .ok (.tuple #[.agg (chA c), .bool b]) w := by
  have hp' : tmps[p]?.getD undef = .pointer (some ⟨g, 0, none⟩) := by simpa using hp
  have hq' : tmps[q]?.getD undef = .bool b := by simpa using hq
  simp [results, h, hp', hq', asAddr, run_loadVar_mid w g 0 108 (chL c) _ hg Tryd.underlying108 rfl (by rw [chL_length]; exact infoCh), chA]
theorem wpList_store_ch {ops : Array Oper} {rest : List Oper} {o : Oper} {a : Act} {w : World} {Q : Exit → Act → World → Prop} (hgd : o.guard = none) (x y : Operand) (ho : o.op = .store 108 x y)
    (g : Nat) (c d : Chs) (hx : a.eval x = .pointer (some ⟨g, 0, none⟩)) (hy : a.eval y = .agg (chA c)) (ht : ChAt w 108 g d)
    (h : wpList Tryd.prog ops Q rest (a.put o.dst undef) (w.setRow g (chA c))) : wpList Tryd.prog ops Q (o :: rest) a w := by
  refine wpList_plain hgd fun K hK' => ?_
  have hrun := run_storeVar_row (P := Tryd.prog) w g 108 108 (chA d) (chA c) ht (by rw [chA_size]; exact infoCh) (by rw [chA_size, chA_size]) (chA_all c)
  unfold Oper.wp
  simp [execOp, ho, hx, hy, Instr.storeAt, Instr.sureAddr, hrun, Result.andThen, Oper.upon]
  exact hK' _ _ h

theorem exec_load_ch {ev : Operand → Value} {o : Oper} {u : World} (x : Operand) (ho : o.op = .load 108 x) (g : Nat) (c : Chs) (hx : ev x = .pointer (some ⟨g, 0, none⟩)) (hc : u.rangeAt g 0 (chL c)) :
    (execOp ev o).run Tryd.prog u = .ok (.value (.agg (chA c))) u := by
  have hrun := run_loadAt_mid (P := Tryd.prog) u g 0 108 (chL c) _ hc Tryd.underlying108 rfl (by rw [chL_length]; exact infoCh)
  simp [execOp, ho, hx, hrun, Result.andThen]
  rfl
theorem op_store_ch {o : Oper} {a : Act} {w : World} {K : Act → World → Prop} {Q : Exit → Act → World → Prop} (x y : Operand) (ho : o.op = .store 108 x y)
    (g : Nat) (c d : Chs) (hx : a.eval x = .pointer (some ⟨g, 0, none⟩)) (hy : a.eval y = .agg (chA c)) (ht : ChAt w 108 g d) (h : K (a.put o.dst undef) (w.setRow g (chA c))) : Oper.wp Tryd.prog o a w K Q := by
  have hrun := run_storeVar_row (P := Tryd.prog) w g 108 108 (chA d) (chA c) ht (by rw [chA_size]; exact infoCh) (by rw [chA_size, chA_size]) (chA_all c)
  unfold Oper.wp
  simp [execOp, ho, hx, hy, Instr.storeAt, Instr.sureAddr, hrun, Result.andThen, Oper.upon]
  exact h
theorem modify_push {α : Type} (a : Array α) (x : α) (f : α → α) : (a.push x).modify a.size f = a.push (f x) := by
  apply Array.ext_getElem?
  intro i
  rw [Array.getElem?_modify]
  by_cases h : a.size = i
  · subst h; simp
  · rw [if_neg h, Array.getElem?_push, Array.getElem?_push, if_neg (fun e => h e.symm), if_neg (fun e => h e.symm)]
theorem alloc_setRow (w : World) (c cs : Array Value) (t : TypeId) : (w.alloc (.cells c t)).setRow w.heap.size cs = w.alloc (.cells cs t) :=
  congrArg (fun h => ({ w with heap := h } : World)) (modify_push w.heap (Obj.cells c t (0, 0)) (fun | .cells _ elem frozen => .cells cs elem frozen | o => o))
theorem ChAt.setRow {w : World} {t : TypeId} {g : Nat} {c : Chs} (h : ChAt w t g c) (d : Chs) : ChAt (w.setRow g (chA d)) t g d := by
  unfold ChAt at h ⊢
  show (w.heap.modify g _)[g]? = _
  rw [Array.getElem?_modify, if_pos rfl, h]
  rfl
theorem setRow_other {w : World} {g b : Nat} (cs : Array Value) (h : b ≠ g) : (w.setRow g cs).heap[b]? = w.heap[b]? := by
  show (w.heap.modify g _)[b]? = _
  rw [Array.getElem?_modify, if_neg (fun e => h e.symm)]
theorem keeps_setRow {H : Nat → Prop} (w : World) (g : Nat) (cs : Array Value) (h : H g) : Keeps H w (w.setRow g cs) :=
  ⟨rfl, rfl, rfl, by simp [World.setRow], fun k _ hn => setRow_other cs (fun e => hn (e ▸ h))⟩
theorem wpList_store_chn {ops : Array Oper} {rest : List Oper} {o : Oper} {a : Act} {w : World} {Q : Exit → Act → World → Prop} (hgd : o.guard = none) (x y : Operand) (ho : o.op = .store 108 x y)
    (g : Nat) (c d : Chs) (hg : g = w.heap.size) (hx : a.eval x = .pointer (some ⟨g, 0, none⟩)) (hy : a.eval y = .agg (chA c))
    (h : wpList Tryd.prog ops Q rest (a.put o.dst undef) (w.alloc (.cells (chA c) 108))) : wpList Tryd.prog ops Q (o :: rest) a (w.alloc (.cells (chA d) 108)) := by
  subst hg
  refine wpList_store_ch hgd x y ho w.heap.size c d hx hy (ChAt.new w _ _) ?_
  rw [alloc_setRow]
  exact h
/-! the same inside a fence -/
section
variable {F : Fence} {n : Nat}
theorem wpListIn_load_ch {ops : Array Oper} {rest : List Oper} {op : Oper} {a : Act} {w : World} {Q : Exit → Act → World → Prop} (hgd : op.guard = none) (x : Operand) (ho : op.op = .load 108 x)
    (b : Nat) (c : Chs) (hx : a.eval x = .pointer (some ⟨b, 0, none⟩)) (hc : w.rangeAt b 0 (chL c))
    (h : wpListIn F n Tryd.prog ops Q rest (a.put op.dst (.agg (chA c))) w) : wpListIn F n Tryd.prog ops Q (op :: rest) a w := by
  refine wpListIn_plain hgd fun K hK' => ?_
  have hrun := run_loadAt_mid (P := Tryd.prog) w b 0 108 (chL c) _ hc Tryd.underlying108 rfl (by rw [chL_length]; exact infoCh)
  unfold Oper.wpIn
  refine ⟨by simp [Oper.about, ho], ?_⟩
  rw [Oper.semAt_plain F _ _ (by rw [ho]; intro c hc'; cases hc')]
  simp [execOp, ho, hx, hrun, Result.andThen]
  exact hK' _ _ h
theorem wpListIn_store_ch {ops : Array Oper} {rest : List Oper} {op : Oper} {a : Act} {w : World} {Q : Exit → Act → World → Prop} (hgd : op.guard = none) (x y : Operand) (ho : op.op = .store 108 x y)
    (g : Nat) (c d : Chs) (hx : a.eval x = .pointer (some ⟨g, 0, none⟩)) (hy : a.eval y = .agg (chA c)) (ht : ChAt w 108 g d)
    (h : wpListIn F n Tryd.prog ops Q rest (a.put op.dst undef) (w.setRow g (chA c))) : wpListIn F n Tryd.prog ops Q (op :: rest) a w := by
  refine wpListIn_plain hgd fun K hK' => ?_
  have hrun := run_storeVar_row (P := Tryd.prog) w g 108 108 (chA d) (chA c) ht (by rw [chA_size]; exact infoCh) (by rw [chA_size, chA_size]) (chA_all c)
  unfold Oper.wpIn
  refine ⟨by simp [Oper.about, ho], ?_⟩
  rw [Oper.semAt_plain F _ _ (by rw [ho]; intro c hc'; cases hc')]
  simp [execOp, ho, hx, hy, Instr.storeAt, Instr.sureAddr, hrun, Result.andThen]
  exact hK' _ _ h
theorem wpListIn_store_chn {ops : Array Oper} {rest : List Oper} {op : Oper} {a : Act} {w : World} {Q : Exit → Act → World → Prop} (hgd : op.guard = none) (x y : Operand) (ho : op.op = .store 108 x y)
    (g : Nat) (c d : Chs) (hg : g = w.heap.size) (hx : a.eval x = .pointer (some ⟨g, 0, none⟩)) (hy : a.eval y = .agg (chA c))
    (h : wpListIn F n Tryd.prog ops Q rest (a.put op.dst undef) (w.alloc (.cells (chA c) 108))) : wpListIn F n Tryd.prog ops Q (op :: rest) a (w.alloc (.cells (chA d) 108)) := by
  subst hg
  refine wpListIn_store_ch hgd x y ho w.heap.size c d hx hy (ChAt.new w _ _) ?_
  rw [alloc_setRow]
  exact h
end
/-- two arrays are equal (said so that no walk reckons it) -/
noncomputable def eqC (c d : Chs) : Bool := Classical.epsilon fun b => b = (List.range 40).all fun i => c i == d i
theorem eqC_def (c d : Chs) : eqC c d = (List.range 40).all fun i => c i == d i := Classical.epsilon_spec (p := fun b => b = (List.range 40).all fun i => c i == d i) ⟨_, rfl⟩
theorem eqC_iff (c d : Chs) : eqC c d = true ↔ ∀ i, i < 40 → c i = d i := by
  rw [eqC_def]
  rw [List.all_eq_true]
  exact ⟨fun h i hi => by simpa using h i (List.mem_range.2 hi), fun h i hi => by simpa using h i (List.mem_range.1 hi)⟩
theorem infoSet : (Tryd.prog.info? 106).map (·.size) = some 1 := by kernel_rfl
theorem run_part_ch (c : Chs) {i : Nat} (hi : i < 40) (w : World) : (part 106 (chA c) (i * 1)).run Tryd.prog w = .ok (.int .u64 (c i : Int)) w := by
  have h1 := chA_get c hi
  rw [Nat.mul_one]
  simp [part, isAgg, run_underlying Tryd.underlying106, h1, Sem.run_bind, Result.andThen]
theorem run_eq_list (c d : Chs) (w : World) (f : Nat → Option Bool × Unit → Sem (ForInStep (Option Bool × Unit)))
    (hf : ∀ i s, i < 40 → (f i s).run Tryd.prog w = .ok (bif c i == d i then ForInStep.yield (none, ()) else ForInStep.done (some false, ())) w) :
    ∀ l : List Nat, (∀ i ∈ l, i < 40) → (forIn l (none, ()) f).run Tryd.prog w = .ok (bif (l.all fun i => c i == d i) then (none, ()) else (some false, ())) w := by
  intro l
  induction l with
  | nil => intro _; rfl
  | cons i l ih =>
    intro h
    rw [List.forIn_cons, Sem.run_bind, hf i _ (h i List.mem_cons_self)]
    rw [List.all_cons]
    simp only [Result.andThen]
    cases (c i == d i)
    · rfl
    · exact ih fun j hj => h j (List.mem_cons_of_mem _ hj)
set_option maxRecDepth 20000 in
theorem run_eq_ch (c d : Chs) (w : World) : (Op.equalIn 10000 108 (.agg (chA c)) (.agg (chA d))).run Tryd.prog w = .ok (eqC c d) w := by
  have hu := Tryd.underlying108
  obtain ⟨i0, hi, hs⟩ : ∃ i, Tryd.prog.info? 106 = some i ∧ i.size = 1 := by
    cases hq : Tryd.prog.info? 106 with
    | none => have := infoSet; rw [hq] at this; cases this
    | some i => have := infoSet; rw [hq] at this; exact ⟨i, rfl, by simpa using this⟩
  unfold Op.equalIn
  simp only [Sem.run_bind, run_underlying hu, Result.andThen, sizeOf, typeInfo, run_program, hi, Sem.run_pure, hs]
  rw [Std.Legacy.Range.forIn_eq_forIn_range', show List.range' ([:40] : Std.Legacy.Range).start ([:40] : Std.Legacy.Range).size ([:40] : Std.Legacy.Range).step = List.range 40 from by decide]
  generalize hq : Sem.run Tryd.prog (forIn (List.range 40) (none, ()) _) w = q
  have hq2 : q = .ok (bif ((List.range 40).all fun i => c i == d i) then (none, ()) else (some false, ())) w := by
    rw [← hq]
    refine run_eq_list c d w _ (fun i s hi => ?_) (List.range 40) (fun i h => List.mem_range.1 h)
    have e1 := run_part_ch c hi w
    have e2 := run_part_ch d hi w
    have e3 := run_equalIn_int (P := Tryd.prog) w 9998 106 .u64 .u64 (c i : Int) (d i : Int) Tryd.underlying106
    rw [Sem.run_bind, e1]
    simp only [Result.andThen]
    rw [Sem.run_bind, e2]
    simp only [Result.andThen]
    rw [Sem.run_bind, e3]
    simp only [Result.andThen]
    by_cases hb : c i = d i
    · simp [hb, Sem.run_pure]
    · have h1 : (((c i : Nat) : Int) == ((d i : Nat) : Int)) = false := by simp; omega
      have h2 : (c i == d i) = false := by simp; exact hb
      rw [h1, h2]
      rfl
  subst hq2
  rw [eqC_def]
  cases ((List.range 40).all fun i => c i == d i) <;> rfl
theorem wpList_eq_ch {ops : Array Oper} {rest : List Oper} {o : Oper} {a : Act} {w : World} {Q : Exit → Act → World → Prop} (hgd : o.guard = none) (p q : Tmp) (t : TypeId) (ho : o.op = .binOp .eql 108 (.tmp p) (.tmp q) t)
    (c d : Chs) (hx : a.eval (.tmp p) = .agg (chA c)) (hy : a.eval (.tmp q) = .agg (chA d)) (b : Bool) (hb : eqC c d = b)
    (h : wpList Tryd.prog ops Q rest (a.put o.dst (.bool b)) w) : wpList Tryd.prog ops Q (o :: rest) a w := by
  refine wpList_plain hgd fun K hK' => ?_
  have hx' : a.tmps[p]?.getD undef = .agg (chA c) := by simpa [Act.eval] using hx
  have hy' : a.tmps[q]?.getD undef = .agg (chA d) := by simpa [Act.eval] using hy
  unfold Oper.wp
  simp [execOp, ho, hx', hy', go_sem, run_eq_ch, hb]
  exact hK' _ _ h
theorem run_index_ch (c : Chs) {j : Nat} (hj : j < 40) (w : World) : (Instr.index 108 (.agg (chA c)) (.int .i64 (j : Int))).run Tryd.prog w = .ok (.int .u64 (c j : Int)) w := by
  have h1 := chA_get c hj
  have h2 : (0 : Int) ≤ (j : Int) ∧ (j : Int) < 40 := by omega
  obtain ⟨i0, hi, hs⟩ : ∃ i, Tryd.prog.info? 106 = some i ∧ i.size = 1 := by
    cases hq : Tryd.prog.info? 106 with
    | none => have := infoSet; rw [hq] at this; cases this
    | some i => have := infoSet; rw [hq] at this; exact ⟨i, rfl, by simpa using this⟩
  simp [Instr.index, run_underlying Tryd.underlying108, asIntOf, part, isAgg, run_underlying Tryd.underlying106, sizeOf, typeInfo, hi, hs, h1, h2]
  intro h
  omega
theorem run_index_re (c : Chs) {j : Nat} (hj : j < 40) (w : World) : (Instr.index 107 (.agg (chA c)) (.int .i64 (j : Int))).run Tryd.prog w = .ok (.int .u64 (c j : Int)) w := by
  have h1 := chA_get c hj
  have h2 : (0 : Int) ≤ (j : Int) ∧ (j : Int) < 40 := by omega
  obtain ⟨i0, hi, hs⟩ : ∃ i, Tryd.prog.info? 106 = some i ∧ i.size = 1 := by
    cases hq : Tryd.prog.info? 106 with
    | none => have := infoSet; rw [hq] at this; cases this
    | some i => have := infoSet; rw [hq] at this; exact ⟨i, rfl, by simpa using this⟩
  simp [Instr.index, run_underlying Tryd.underlying107, asIntOf, part, isAgg, run_underlying Tryd.underlying106, sizeOf, typeInfo, hi, hs, h1, h2]
  intro h
  omega
theorem sh_wrap {v : Nat} (h : v < 40) : IntKind.u64.wrap ((2 : Int) ^ v) = (sh v : Int) := by
  have e : ((2 : Int) ^ v) = (sh v : Int) := by simp [sh]
  have := sh_lt h
  rw [e, IntKind.wrap_u64]
  omega

end Go.Proofs.YtaeelanbkdkppaaDoor

/-
  The program's iterator over the elements of a set.
-/
namespace Go.Proofs.YtaeelanbkdkppaaDoor
open Go.RowKit Go.Shelf

attribute [local go_sem] Oper.semAt_some

theorem TabW.up {w w' : World} (h : TabW w) (hb : w'.heap[0]? = w.heap[0]?) : TabW w' := fun j hj => by
  have := h j hj
  unfold World.cell? at this ⊢
  rw [hb]
  exact this
/-- what this iterator hands over -/
def RInt (x : Nat) (G : Blks) (_ : World) (vs : Array Value) : Prop := (∀ b, ¬ G b) ∧ vs = #[.int .i64 (x : Int)]

set_option maxRecDepth 100000 in
set_option maxHeartbeats 2000000 in
theorem all_visits (s : Nat) (hs : s < 18446744073709551616) (w : World) (h00 : 0 < w.heap.size) (hT : TabW w) : Visits Tryd.prog 98 #[.int .u64 (s : Int)] #[] (bitsOf s) RInt (fun b => b = 0) w := by
  intro l J Jx H W hW hJ hJx hO hY h0
  have hH0 := hO 0 rfl
  have hTW : TabW W := hT.up (hW.block 0 h00)
  have hW0 : 0 < W.heap.size := Nat.lt_of_lt_of_le h00 hW.size
  clear hO hT hW h00 w
  have HY := Lib.hid hY
  have HT := Lib.hid hTW
  have HH := Lib.hid hH0
  clear hY hTW hH0
  refine (callsIn_wide (n := 3)).1 ?_
  refine callsIn_of_wp Tryd.func98 rfl trivial ?_ rfl
  simp only [Tryd.ntmps98, List.size_toArray, List.length_cons, List.length_nil, Nat.reduceAdd, Nat.reduceSub, Array.replicate_succ, Array.replicate_zero, List.push_toArray, List.append_toArray, List.nil_append, List.cons_append]
  gi_wp2
  gi_loopw [0] (fun v wr => ∃ (t : Nat) (pre : List Nat) (H' : Blks), v = .int .u64 (t : Int) ∧ t < 18446744073709551616 ∧ pre ++ bitsOf t = bitsOf s ∧ J pre H' wr ∧ Keeps H W wr ∧ ∀ b, H' b → H b ∨ W.heap.size ≤ b)
    (fun v _ => (intOf v).toNat)
  case atStart => exact ⟨s, [], H, rfl, hs, rfl, h0, Keeps.refl _ _, fun b h => .inl h⟩
  case round =>
    obtain ⟨t, pre, H', rfl, ht, hpre, hj, hk, hg⟩ := hrel
    by_cases ht0 : t = 0
    · subst ht0
      rw [bitsOf_zero, List.append_nil] at hpre
      subst hpre
      have t1 : ((0 : Int) != 0) = false := rfl
      gi_wp2
      go_end0
      exact ⟨⟨_, rfl⟩, hk, H', hg, .inl hj⟩
    · have t1 : ((t : Int) != 0) = true := by simp; omega
      have hpop := bitsOf_pop ht0 ht
      rw [hpop] at hpre
      have hTr : TabW wr := HT.out.up (hk.block 0 hW0 HH.out)
      have HTZ := Lib.hid (tz_any t ht ht0 wr hTr)
      have hc : pre ++ [Lib.ctz 64 t] <+: bitsOf s := by rw [← hpre]; exact ⟨_, List.append_assoc _ _ _⟩
      obtain ⟨fn, tmps, assign, body, hy, hR⟩ := YieldAt.anyDepth rfl 2 (HY.out pre (Lib.ctz 64 t) H' wr (fun _ => False) _ hj hc ⟨fun _ h => h, rfl⟩ (fun _ h => h.elim))
      have HP := Lib.hid hpre
      have HK := Lib.hid hk
      have HG := Lib.hid hg
      have HLT := Lib.hid (pop_lt ht)
      have hle : t &&& (t - 1) < t := Nat.lt_of_le_of_lt Nat.and_le_right (by omega)
      have HM : Hid (((t &&& (t - 1) : Nat) : Int).toNat < ((t : Nat) : Int).toNat) := Lib.hid (by rw [Int.toNat_natCast, Int.toNat_natCast]; exact hle)
      have key : bits BinOp.and IntKind.u64 (t : Int) ((t : Int) - 1) = ((t &&& (t - 1) : Nat) : Int) := by
        have e : ((t : Int) - 1) = ((t - 1 : Nat) : Int) := by omega
        rw [e]
        exact bits_and_u64_nat t (t - 1) ht (by omega)
      clear hpre hk hg hj hTr hpop hle hc
      gi_wp2_with (refine ⟨trivial, ?_⟩; gi_at_call 100; refine (callsIn_wide.2 HTZ.out).mono ?_; rintro e w' ⟨rfl, rfl⟩)
      refine hR.mono ?_
      rintro e W3 ⟨hk3, H3, hg3, (⟨rfl, hj3⟩ | ⟨rfl, hj3⟩)⟩
      · obtain ⟨hk4, hg4⟩ := keeps_turn HK.out HG.out (G := fun _ => False) (fun _ h => h.elim) hk3 hg3
        gi_wp2
        go_roundw
        case rel => exact ⟨t &&& (t - 1), pre ++ [Lib.ctz 64 t], H3, rfl, HLT.out, by rw [List.append_assoc]; exact HP.out, hj3, hk4, hg4⟩
        case measure => exact HM.out
      · obtain ⟨hk4, hg4⟩ := keeps_turn HK.out HG.out (G := fun _ => False) (fun _ h => h.elim) hk3 hg3
        gi_wp2
        refine bodyPost_ret (results_none rfl _ _ _) rfl ?_
        exact ⟨⟨_, rfl⟩, hk4, H3, hg4, .inr hj3⟩

end Go.Proofs.YtaeelanbkdkppaaDoor

/-
  The program's links in memory, and what one of them leaves of the choices of its ends.
-/
namespace Go.Proofs.YtaeelanbkdkppaaDoor
open Go.RowKit Go.Shelf

attribute [local go_sem] Oper.semAt_some

/-- a link lies from this cell on -/
structure LkAt (w : World) (g off : Nat) (L : Lk) : Prop where
  fr : w.cell? ⟨g, off, none⟩ = some (.int .i64 (L.fr : Int))
  tq : w.cell? ⟨g, off + 1, none⟩ = some (.int .i64 (L.tq : Int))
  re : ∀ v, v < 40 → w.cell? ⟨g, off + 2 + v, none⟩ = some (.int .u64 (L.reach v : Int))
theorem cell_heap {w w' : World} {p : Addr} (h : w'.heap[p.block]? = w.heap[p.block]?) : w'.cell? p = w.cell? p := by
  unfold World.cell?
  rw [h]
theorem LkAt.up {w w' : World} {g off : Nat} {L : Lk} (h : LkAt w g off L) (hb : w'.heap[g]? = w.heap[g]?) : LkAt w' g off L :=
  ⟨(cell_heap (p := ⟨g, off, none⟩) hb).trans h.fr, (cell_heap (p := ⟨g, off + 1, none⟩) hb).trans h.tq, fun v hv => (cell_heap (p := ⟨g, off + 2 + v, none⟩) hb).trans (h.re v hv)⟩

/-- some of the blocks lie as said, the others below as they lay -/
def Two (w0 : World) (b1 b2 : Nat) (o1 o2 : Obj) (H : Blks) (V : World) : Prop :=
  (∀ b, H b ↔ b = b1 ∨ b = b2) ∧ b1 < V.heap.size ∧ b2 < V.heap.size ∧ V.heap[b1]? = some o1 ∧ V.heap[b2]? = some o2 ∧ ∀ b, b < w0.heap.size → b ≠ b1 → b ≠ b2 → V.heap[b]? = w0.heap[b]?
theorem Two.foot (w0 : World) (b1 b2 : Nat) (o1 o2 : Obj) : Foot (fun b => b < w0.heap.size) (Two w0 b1 b2 o1 o2) := by
  rintro H V ⟨h1, h2, h3, h4, h5, h6⟩
  refine ⟨fun b hb => ?_, fun V' hs hb => ⟨h1, by omega, by omega, (hb b1 (.inl ((h1 _).2 (.inl rfl)))).trans h4, (hb b2 (.inl ((h1 _).2 (.inr rfl)))).trans h5, fun b hl n1 n2 => (hb b (.inr hl)).trans (h6 b hl n1 n2)⟩⟩
  rcases (h1 b).1 hb with rfl | rfl <;> assumption

set_option maxRecDepth 100000 in
set_option maxHeartbeats 2000000 in
theorem supported_any (L : Lk) (fr tq g off : Nat) (w : World) (h00 : 0 < w.heap.size) (hT : TabW w) (hf : fr < 1099511627776) (ht : tq < 1099511627776) (hr : ∀ v, v < 40 → L.reach v < 1099511627776) (hL : LkAt w g off L) (hg : g < w.heap.size) :
    Calls Tryd.prog 112 #[.pointer (some ⟨g, off, none⟩), .int .u64 (fr : Int), .int .u64 (tq : Int)] w fun e w' => e = .returned (.tuple #[.int .u64 (srcS L fr tq : Int), .int .u64 (tgtS L fr tq : Int)]) ∧ Below w.heap.size w w' := by
  refine (callsIn_wide (n := 6)).1 ?_
  refine callsIn_of_wp_marks Tryd.func112 rfl trivial ?_ rfl
  simp only [Tryd.ntmps112, List.size_toArray, List.length_cons, List.length_nil, Nat.reduceAdd, Nat.reduceSub, Array.replicate_succ, Array.replicate_zero, List.push_toArray, List.append_toArray, List.nil_append, List.cons_append]
  gi_wp2
  generalize hW0 : (((w.alloc _).alloc _).alloc _).alloc _ = W0
  have hB : Below w.heap.size w W0 := by
    rw [← hW0]
    refine Below.alloc (Below.alloc (Below.alloc (Below.alloc (Below.refl _ _) ?_ _) ?_ _) ?_ _) ?_ _ <;> simp <;> omega
  have hs : W0.heap.size = w.heap.size + 4 := by rw [← hW0]; simp
  have b3 : Boxed W0 w.heap.size 146 (.pointer (some ⟨g, off, none⟩)) := by rw [← hW0]; simp only [Boxed, at_alloc, size_alloc]; repeat (first | rfl | (split; · (first | rfl | omega)))
  have b5 : Boxed W0 (w.heap.size + 1) 106 (.int .u64 (tq : Int)) := by rw [← hW0]; simp only [Boxed, at_alloc, size_alloc]; repeat (first | rfl | (split; · (first | rfl | omega)))
  have b8 : Boxed W0 (w.heap.size + 1 + 1) 106 (.int .u64 0) := by rw [← hW0]; simp only [Boxed, at_alloc, size_alloc]; repeat (first | rfl | (split; · (first | rfl | omega)))
  have b9 : Boxed W0 (w.heap.size + 1 + 1 + 1) 106 (.int .u64 0) := by rw [← hW0]; simp only [Boxed, at_alloc, size_alloc]; repeat (first | rfl | (split; · (first | rfl | omega)))
  have hT0 : TabW W0 := hT.up (hB.block 0 h00)
  have hL0 : LkAt W0 g off L := hL.up (hB.block g hg)
  have HB := Lib.hid hB
  have HR := Lib.hid hr
  have h00' : 0 < W0.heap.size := by omega
  have n0 : (0 : Nat) ≠ w.heap.size + 1 + 1 ∧ (0 : Nat) ≠ w.heap.size + 1 + 1 + 1 := by omega
  clear hW0 hT hL hB hr
  refine wpIn_visits (gf := 98) (ba := #[.int .u64 (fr : Int)]) (lb := #[]) rfl (enters_of Tryd.func98 (by kernel_rfl) rfl) (all_visits fr (by omega) W0 h00' hT0) (fun x G V vs h => by rw [h.2]; rfl)
    (fun pre H V => (∀ v ∈ pre, v < 40) ∧ Two W0 (w.heap.size + 1 + 1) (w.heap.size + 1 + 1 + 1) (.cells #[.int .u64 (srcF L tq pre : Int)] 106 (0, 0)) (.cells #[.int .u64 (tgtF L tq pre : Int)] 106 (0, 0)) H V)
    (fun _ _ _ => False) (fun pre => (Two.foot _ _ _ _ _).pure _) (fun _ => foot_false _) (fun b => b = w.heap.size + 1 + 1 ∨ b = w.heap.size + 1 + 1 + 1)
    ⟨(fun _ h => by cases h), fun b => Iff.rfl, by omega, by omega, b8, b9, fun _ _ _ _ => rfl⟩ (fun b hb => by subst hb; exact ⟨fun h => h.elim n0.1 n0.2, h00'⟩) ?round ?done ?stop
  case round =>
    rintro l pre x H G vs V K hl ⟨r, hr⟩ hHl hGl ⟨hpre, i1, i2, i3, i4, i5, i6⟩ hx ⟨hG0, rfl⟩ hGa hK
    have hx := pre_mem hx
    have hx40 := bits40 hf hx
    dsimp only
    gi_wp2
    refine hK _ _ (Keeps.refl _ _) fun r => ?_
    have hh : ∀ b, b < W0.heap.size → (V.putObj l (.loop r)).heap[b]? = V.heap[b]? := fun b hb => World.putObj_heap_other (by omega)
    have c3 : Boxed (V.putObj l (.loop r)) w.heap.size 146 (.pointer (some ⟨g, off, none⟩)) := (hh _ (by omega)).trans ((i6 _ (by omega) (by omega) (by omega)).trans b3)
    have c5 : Boxed (V.putObj l (.loop r)) (w.heap.size + 1) 106 (.int .u64 (tq : Int)) := (hh _ (by omega)).trans ((i6 _ (by omega) (by omega) (by omega)).trans b5)
    have c8 : Boxed (V.putObj l (.loop r)) (w.heap.size + 1 + 1) 106 (.int .u64 (srcF L tq pre : Int)) := (hh _ (by omega)).trans i4
    have c9 : Boxed (V.putObj l (.loop r)) (w.heap.size + 1 + 1 + 1) 106 (.int .u64 (tgtF L tq pre : Int)) := (hh _ (by omega)).trans i5
    have hLV : LkAt (V.putObj l (.loop r)) g off L := hL0.up ((hh _ (by omega)).trans (i6 _ (by omega) (by omega) (by omega)))
    have hrest : ∀ b, b < W0.heap.size → b ≠ w.heap.size + 1 + 1 → b ≠ w.heap.size + 1 + 1 + 1 → (V.putObj l (.loop r)).heap[b]? = W0.heap[b]? := fun b hb n1 n2 => (hh b hb).trans (i6 b hb n1 n2)
    have hsz : V.heap.size = (V.putObj l (.loop r)).heap.size := by simp
    rw [hsz] at i2 i3 ⊢
    generalize V.putObj l (.loop r) = U at *
    have hre := HR.out x hx40
    have d3 := c3.cell
    have d5 := c5.cell
    have d8 := c8.cell
    have d8f := c8.frozen
    have d9 := c9.cell
    have d9f := c9.frozen
    have dr := hLV.re x hx40
    have x0 : (0 : Int) ≤ (x : Int) := by omega
    have x1 : (x : Int) < 40 := by omega
    have x2 : ((x : Int)).toNat = x := by omega
    have key := bits_and_u64_nat (L.reach x) tq (by omega) (by omega)
    have hw := sh_wrap hx40
    have HS := Lib.hid (srcF_snoc L tq pre x)
    have HT := Lib.hid (tgtF_snoc L tq pre x)
    have HC8 := Lib.hid c8
    have HC9 := Lib.hid c9
    have HRS := Lib.hid hrest
    have HI1 := Lib.hid i1
    have HI2 := Lib.hid i2
    have HI3 := Lib.hid i3
    have HSZ := Lib.hid hs
    have hpre2 : ∀ v ∈ pre ++ [x], v < 40 := fun v hv => (List.mem_append.1 hv).elim (hpre v) (fun h => by rw [List.mem_singleton.1 h]; exact hx40)
    have hS := srcF_lt L tq pre hpre
    have hTt := tgtF_lt L tq ht pre
    generalize srcF L tq pre = S at *
    generalize tgtF L tq pre = T at *
    have hand : L.reach x &&& tq < 1099511627776 := and_lt _ hre
    generalize L.reach x &&& tq = R at *
    clear hr hHl hGl i1 i4 i5 i6 hK hh c3 c5 c8 c9 hrest hLV b3 b5 b8 b9 hs hl hsz i2 i3 n0 h00' h00 hT0 hL0 hg
    have HFIN : Hid (∀ (a' : Act) (V3 : World), Keeps (fun b => b = w.heap.size + 1 + 1 ∨ b = w.heap.size + 1 + 1 + 1) U V3 → Boxed V3 (w.heap.size + 1 + 1) 106 (.int .u64 (srcF L tq (pre ++ [x]) : Int)) → Boxed V3 (w.heap.size + 1 + 1 + 1) 106 (.int .u64 (tgtF L tq (pre ++ [x]) : Int)) →
        RoundEnd (fun b => H b ∨ G b) U.heap.size (fun H V => (∀ v ∈ pre ++ [x], v < 40) ∧ Two W0 (w.heap.size + 1 + 1) (w.heap.size + 1 + 1 + 1) (.cells #[.int .u64 (srcF L tq (pre ++ [x]) : Int)] 106 (0, 0)) (.cells #[.int .u64 (tgtF L tq (pre ++ [x]) : Int)] 106 (0, 0)) H V) (fun _ _ _ => False) U .normal a' V3) := by
      refine Lib.hid fun a' V3 hk e8 e9 => ⟨hk.mono fun i _ h => .inl ((HI1.out i).2 h), H, fun b hb => .inl (.inl hb), hpre2, HI1.out, e8.lt, e9.lt, e8, e9, fun b hb n1 n2 => ?_⟩
      exact (hk.block b (by have := HI2.out; have := HSZ.out; have := HI3.out; omega) (fun h => h.elim n1 n2)).trans (HRS.out b hb n1 n2)
    gi_upto_region 4 with fail
    gi_cut [11] from 15 (fun u wx => u = .int .u64 (R : Int) ∧ wx = U.drew)
    case first =>
      rename_i J K2 hJ hK2
      gi_wp2
      gi_region
      all_goals (refine hK2 _ _ (Met.intro (hJ _ _ ?_)); (repeat apply Exists.intro); exact ⟨⟨rfl, rfl⟩, rfl⟩)
    case rest =>
      obtain ⟨rfl, rfl⟩ := hcut
      by_cases hR0 : R = 0
      · subst hR0
        have t1 : ((0 : Int) != 0) = false := rfl
        have e8 : Boxed U.drew (w.heap.size + 1 + 1) 106 (.int .u64 (srcF L tq (pre ++ [x]) : Int)) := by rw [HS.out, if_neg (by simp)]; exact HC8.out
        have e9 : Boxed U.drew (w.heap.size + 1 + 1 + 1) 106 (.int .u64 (tgtF L tq (pre ++ [x]) : Int)) := by rw [HT.out, if_neg (by simp)]; exact HC9.out
        have HF := Lib.hid (fun a' => HFIN.out a' _ (keeps_drew _ _) e8 e9)
        clear HFIN e8 e9 HS HT
        gi_wp2
        exact HF.out _
      · have t1 : ((R : Int) != 0) = true := by simp; omega
        have k1 := bits_or_u64_nat S (sh x) (by omega) (by have := sh_lt hx40; omega)
        have k2 := bits_or_u64_nat T R (by omega) (by omega)
        have f8 : Boxed ((U.setCell ⟨w.heap.size + 1 + 1, 0, none⟩ (.int .u64 ((S ||| sh x : Nat) : Int))).drew.drew) (w.heap.size + 1 + 1) 106 (.int .u64 (srcF L tq (pre ++ [x]) : Int)) := by rw [HS.out, if_pos hR0]; exact HC8.out.set _
        have f9 : Boxed ((U.setCell ⟨w.heap.size + 1 + 1, 0, none⟩ (.int .u64 ((S ||| sh x : Nat) : Int))).drew.drew) (w.heap.size + 1 + 1 + 1) 106 (.int .u64 (T : Int)) := HC9.out.other (by omega) _
        have f10 : Boxed (((U.setCell ⟨w.heap.size + 1 + 1, 0, none⟩ (.int .u64 ((S ||| sh x : Nat) : Int))).drew.drew).setCell ⟨w.heap.size + 1 + 1 + 1, 0, none⟩ (.int .u64 ((T ||| R : Nat) : Int))) (w.heap.size + 1 + 1 + 1) 106 (.int .u64 (tgtF L tq (pre ++ [x]) : Int)) := by rw [HT.out, if_pos hR0]; exact f9.set _
        have HF := Lib.hid (fun a' => HFIN.out a' _ ((((keeps_setCell (H := fun b => b = w.heap.size + 1 + 1 ∨ b = w.heap.size + 1 + 1 + 1) U ⟨w.heap.size + 1 + 1, 0, none⟩ (.int .u64 ((S ||| sh x : Nat) : Int)) (.inl rfl)).trans (keeps_drew _ _) fun _ _ h => h).trans (keeps_drew _ _) fun _ _ h => h).trans (keeps_setCell _ ⟨w.heap.size + 1 + 1 + 1, 0, none⟩ (.int .u64 ((T ||| R : Nat) : Int)) (.inr rfl)) fun _ _ h => h) (f8.other (by omega) _) f10)
        have g9 := f9.cell
        have g9f := f9.frozen
        clear HFIN f8 f9 f10 HS HT
        gi_wp2
        gi_region
        all_goals (gi_wp2; exact HF.out _)
  case done =>
    rintro D H W hD hHD hg2 ⟨_, i1, i2, i3, i4, i5, i6⟩ hk hKd
    have c8 : Boxed W (w.heap.size + 1 + 1) 106 (.int .u64 (srcS L fr tq : Int)) := i4
    have c9 : Boxed W (w.heap.size + 1 + 1 + 1) 106 (.int .u64 (tgtS L fr tq : Int)) := i5
    have d8 := c8.cell
    have d9 := c9.cell
    have HKD := Lib.hid hKd
    have HE : Hid (Below w.heap.size w (W.putObj D (.deferred none))) := Lib.hid (below_loop _ HB.out (Nat.le_refl _) hk (fun b h => by omega) hD)
    clear i1 i2 i3 i4 i5 i6 hk hKd c8 c9 hg2 hHD
    gi_wp2
    gi_region
    all_goals (gi_wp2; refine ⟨by simp, .inl ⟨_, _, rfl, run_takeDeferred HKD.out, ?_⟩⟩)
    all_goals exact ⟨_, results_tmp2 rfl _ _ _, rfl, HE.out.drew⟩
  case stop => exact fun D c H W _ _ _ h => h.elim

end Go.Proofs.YtaeelanbkdkppaaDoor

/-
  append of one element, at a step of a region that draws its order.
-/
namespace Go.Proofs.YtaeelanbkdkppaaDoor
open Go.RowKit

theorem step_append_E {α : Type} {E : El α} {w : World} {ops : Array Oper} {o : Oper} {a : Act} {K : Act → World → Prop} {Q : Exit → Act → World → Prop} {X : Prop} (hgd : o.guard = none) (s x : Operand) (T t : TypeId)
    (ho : o.op = .call { callee := .builtin .append, args := #[s, x], argTypes := #[T, T] }) {z : Value} {bytes : Nat}
    (hT : Tryd.prog.underlying T = some (.slice t)) (hinfo : (Tryd.prog.info? t).map (fun i => (i.zero, i.size, i.bytes)) = some (some z, E.size, bytes)) (hzc : z.cells.size = E.size) (hpos : 0 < E.size) (hby : bytes ≤ 1000)
    (base : Nat) (v : Value) (xs : List α) (hs : a.eval s = v) (hown : OwnE E t w base v xs) (ad : Addr) (c : Nat) (m : α) (hx : a.eval x = .slice (some ad) 1 c)
    (hc : ∀ j u, (E.enc m)[j]? = some u → w.cell? (ad.add j) = some u) (hl : xs.length ≤ 1000000) (hbase : base ≤ w.heap.size)
    (hK : ∀ v' w', OwnE E t w' base v' (xs ++ [m]) → w.grownBy w' v.ownBlock → Below base w w' → K (a.put o.dst v') w') : if Region.wanted o (yielded ops a.tmps) = true then Oper.wp Tryd.prog o a w K Q else X := by
  obtain ⟨i0, hi, hz0, hz1, hz2⟩ := info_parts hinfo
  have hb : (xs.length + 1) * bytes ≤ 1000001 * 1000 := Nat.mul_le_mul (by omega) hby
  refine step_append_lies w hgd s x T ho base t i0 z E.size bytes hT hi hz0 hz1 hz2 hzc hpos v xs.length (cellsE E xs) hs hown ad 1 c (E.enc m) hx (by rw [E.len]; omega) hc (E.one m) (by omega) (by unfold maxLen; omega) (by omega) hbase w.heap.size rfl ?_
  intro g cap w' h1 h2 _ _
  refine hK _ w' ?_ h2 ((Below.refl base w).grown h2 hbase (fun k hk => (hown.lt k hk).1))
  unfold OwnE
  rw [cellsE_snoc, List.length_append]
  exact h1
end Go.Proofs.YtaeelanbkdkppaaDoor

