import Derived.Test.YtaeelanbkdkppaaDoorV02
import Derived.Test.YtaeelanbkdkppaaDoorV04
import Derived.Deep.DeepCutAuto
import Derived.ArgAppend
import Derived.LoopTactic
import Derived.Test.YtaeelanbkdkppaaDoorV03
import Derived.Lib.SliceRun
import Derived.Lib.AppendZeros
import Derived.Laws.StructEq
import Derived.Deep.RegionHeld3
import Derived.Outline
import Derived.Shelf.Small.Bits
import Derived.Shelf.Small.Wraps
import Derived.Shelf.Strconv.Itoa0
import Derived.Shelf.Sort.Plain
import Derived.Shelf.Slices.Equal
import Derived.Ground.Names2Prog
import Derived.Shelf.Slices.Clone
import Derived.Shelf.Slices.CompactI
import Derived.Shelf.Slices.SearchI
import Derived.Shelf.Slices.In.SortNone
import Derived.Shelf.Slices.Empties2
import Derived.Test.YtaeelanbkdkppaaDoorProg
import Derived.Deep.RegionLaw
/-
  What the program's search makes of two graphs, as plain data: links and first choices. Its morphisms are all, ascending.
-/
namespace Go.Proofs.YtaeelanbkdkppaaDoor

theorem snoc_fold {α β : Type} (f : β → α → β) (b : β) (l : List α) (x : α) : (l ++ [x]).foldl f b = f (l.foldl f b) x := by simp
def reachF (k : Int) (es : List Ed) : Choices := es.foldl (fun c x => if x.ty = k then upd c x.fr.toNat (c x.fr.toNat ||| sh x.tq.toNat) else c) (fun _ => 0)
theorem reachF_snoc (k : Int) (es : List Ed) (x : Ed) : reachF k (es ++ [x]) = if x.ty = k then upd (reachF k es) x.fr.toNat (reachF k es x.fr.toNat ||| sh x.tq.toNat) else reachF k es := snoc_fold _ _ _ _
theorem reachF_bit (k : Int) (es : List Ed) (v t : Nat) : (reachF k es v).testBit t = true ↔ ∃ x ∈ es, x.ty = k ∧ x.fr.toNat = v ∧ x.tq.toNat = t := by
  induction es using snocInd with
  | h0 => simp [reachF]
  | h1 es x ih =>
    rw [reachF_snoc]
    by_cases hk : x.ty = k
    · rw [if_pos hk]
      by_cases hv : v = x.fr.toNat
      · subst hv
        rw [upd_same, Nat.testBit_or, sh_bit, Bool.or_eq_true, ih, decide_eq_true_eq]
        constructor
        · rintro (⟨y, hy, h⟩ | h)
          · exact ⟨y, List.mem_append_left _ hy, h⟩
          · exact ⟨x, by simp, hk, rfl, h⟩
        · rintro ⟨y, hy, h1, h2, h3⟩
          rcases List.mem_append.1 hy with hy | hy
          · exact .inl ⟨y, hy, h1, h2, h3⟩
          · rw [List.mem_singleton.1 hy] at h3; exact .inr h3
      · rw [upd_other _ _ hv, ih]
        constructor
        · rintro ⟨y, hy, h⟩; exact ⟨y, List.mem_append_left _ hy, h⟩
        · rintro ⟨y, hy, h1, h2, h3⟩
          rcases List.mem_append.1 hy with hy | hy
          · exact ⟨y, hy, h1, h2, h3⟩
          · rw [List.mem_singleton.1 hy] at h2; exact absurd h2.symm hv
    · rw [if_neg hk, ih]
      constructor
      · rintro ⟨y, hy, h⟩; exact ⟨y, List.mem_append_left _ hy, h⟩
      · rintro ⟨y, hy, h1, h2, h3⟩
        rcases List.mem_append.1 hy with hy | hy
        · exact ⟨y, hy, h1, h2, h3⟩
        · rw [List.mem_singleton.1 hy] at h1; exact absurd h1 hk
theorem reachF_small (k : Int) (es : List Ed) (h : ∀ x ∈ es, x.tq.toNat < 40) : Small (reachF k es) := by
  induction es using snocInd with
  | h0 => intro i; simp [reachF]
  | h1 es x ih =>
    have h0 := ih fun y hy => h y (List.mem_append_left _ hy)
    rw [reachF_snoc]
    split
    · exact small_upd h0 (or_lt (h0 _) (sh_lt (h x (by simp)))) _
    · exact h0

def loopF (c : Choices) (m : Nat) : Nat := (List.range m).foldl (fun s v => s ||| (c v &&& sh v)) 0
theorem loopF_succ (c : Choices) (m : Nat) : loopF c (m + 1) = loopF c m ||| (c m &&& sh m) := by unfold loopF; rw [List.range_succ, snoc_fold]
theorem loopF_bit (c : Choices) (m t : Nat) : (loopF c m).testBit t = true ↔ t < m ∧ (c t).testBit t = true := by
  induction m with
  | zero => simp [loopF]
  | succ m ih =>
    rw [loopF_succ, Nat.testBit_or, Nat.testBit_and, sh_bit, Bool.or_eq_true, Bool.and_eq_true, ih, decide_eq_true_eq]
    constructor
    · rintro (⟨h1, h2⟩ | ⟨h1, rfl⟩)
      · exact ⟨by omega, h2⟩
      · exact ⟨by omega, h1⟩
    · rintro ⟨h1, h2⟩
      by_cases e : t = m
      · subst e; exact .inr ⟨h2, rfl⟩
      · exact .inl ⟨by omega, h2⟩
theorem loopF_lt {c : Choices} (hc : Small c) (m : Nat) : loopF c m < 1099511627776 := by
  induction m with
  | zero => simp [loopF]
  | succ m ih => rw [loopF_succ]; exact or_lt ih (and_lt _ (hc m))
def loopsC (k : Int) (b : Gr) : Nat := loopF (reachF k b.es) 40

def rowF (ns : List Int) (k : Int) (m : Nat) : Nat := (List.range m).foldl (fun s i => if ns.getD i 0 = k then s ||| sh i else s) 0
theorem rowF_succ (ns : List Int) (k : Int) (m : Nat) : rowF ns k (m + 1) = if ns.getD m 0 = k then rowF ns k m ||| sh m else rowF ns k m := by unfold rowF; rw [List.range_succ, snoc_fold]
theorem rowF_bit (ns : List Int) (k : Int) (m t : Nat) : (rowF ns k m).testBit t = true ↔ t < m ∧ ns.getD t 0 = k := by
  induction m with
  | zero => simp [rowF]
  | succ m ih =>
    rw [rowF_succ]
    by_cases h : ns.getD m 0 = k
    · rw [if_pos h, Nat.testBit_or, sh_bit, Bool.or_eq_true, ih, decide_eq_true_eq]
      constructor
      · rintro (⟨h1, h2⟩ | rfl)
        · exact ⟨by omega, h2⟩
        · exact ⟨by omega, h⟩
      · rintro ⟨h1, h2⟩
        by_cases e : t = m
        · exact .inr e.symm
        · exact .inl ⟨by omega, h2⟩
    · rw [if_neg h, ih]
      constructor
      · rintro ⟨h1, h2⟩; exact ⟨by omega, h2⟩
      · rintro ⟨h1, h2⟩
        by_cases e : t = m
        · subst e; exact absurd h2 h
        · exact ⟨by omega, h2⟩
theorem rowF_lt (ns : List Int) (k : Int) (m : Nat) (hm : m ≤ 40) : rowF ns k m < 1099511627776 := by
  induction m with
  | zero => simp [rowF]
  | succ m ih =>
    rw [rowF_succ]
    split
    · exact or_lt (ih (by omega)) (sh_lt (by omega))
    · exact ih (by omega)
/-- by the nodes' types: those of the first i nodes -/
def firstN (a b : Gr) (i : Nat) : Choices := fun j => if j < i then rowF b.ns (a.ns.getD j 0) b.ns.length else 0
theorem firstN_small (a b : Gr) (hb : b.ns.length ≤ 40) (i : Nat) : Small (firstN a b i) := fun j => by
  unfold firstN
  split
  · exact rowF_lt _ _ _ hb
  · omega
/-- and by their loops: those of some edges -/
def firstE (b : Gr) (c : Choices) (es : List Ed) : Choices := es.foldl (fun c x => if x.fr = x.tq then upd c x.fr.toNat (c x.fr.toNat &&& loopsC x.ty b) else c) c
theorem firstE_snoc (b : Gr) (c : Choices) (es : List Ed) (x : Ed) : firstE b c (es ++ [x]) = if x.fr = x.tq then upd (firstE b c es) x.fr.toNat (firstE b c es x.fr.toNat &&& loopsC x.ty b) else firstE b c es := snoc_fold _ _ _ _
theorem firstE_bit (b : Gr) (c : Choices) (es : List Ed) (i t : Nat) : (firstE b c es i).testBit t = true ↔ (c i).testBit t = true ∧ ∀ x ∈ es, x.fr = x.tq → x.fr.toNat = i → (loopsC x.ty b).testBit t = true := by
  induction es using snocInd with
  | h0 => simp [firstE]
  | h1 es x ih =>
    rw [firstE_snoc]
    by_cases hx : x.fr = x.tq
    · rw [if_pos hx]
      by_cases hi : i = x.fr.toNat
      · subst hi
        rw [upd_same, Nat.testBit_and, Bool.and_eq_true, ih]
        constructor
        · rintro ⟨⟨h1, h2⟩, h3⟩
          refine ⟨h1, fun y hy e1 e2 => ?_⟩
          rcases List.mem_append.1 hy with hy | hy
          · exact h2 y hy e1 e2
          · rw [List.mem_singleton.1 hy]; exact h3
        · rintro ⟨h1, h2⟩
          exact ⟨⟨h1, fun y hy => h2 y (List.mem_append_left _ hy)⟩, h2 x (by simp) hx rfl⟩
      · rw [upd_other _ _ hi, ih]
        constructor
        · rintro ⟨h1, h2⟩
          refine ⟨h1, fun y hy e1 e2 => ?_⟩
          rcases List.mem_append.1 hy with hy | hy
          · exact h2 y hy e1 e2
          · rw [List.mem_singleton.1 hy] at e2; exact absurd e2.symm hi
        · rintro ⟨h1, h2⟩
          exact ⟨h1, fun y hy => h2 y (List.mem_append_left _ hy)⟩
    · rw [if_neg hx, ih]
      constructor
      · rintro ⟨h1, h2⟩
        refine ⟨h1, fun y hy e1 e2 => ?_⟩
        rcases List.mem_append.1 hy with hy | hy
        · exact h2 y hy e1 e2
        · rw [List.mem_singleton.1 hy] at e1; exact absurd e1 hx
      · rintro ⟨h1, h2⟩
        exact ⟨h1, fun y hy => h2 y (List.mem_append_left _ hy)⟩
theorem firstE_small {b : Gr} {c : Choices} (hc : Small c) (es : List Ed) : Small (firstE b c es) := by
  induction es using snocInd with
  | h0 => exact hc
  | h1 es x ih =>
    rw [firstE_snoc]
    split
    · exact small_upd ih (and_lt _ (ih _)) _
    · exact ih
def firstC (a b : Gr) : Choices := firstE b (firstN a b a.ns.length) a.es
def linkOf (b : Gr) (x : Ed) : Lk := ⟨x.fr.toNat, x.tq.toNat, reachF x.ty b.es⟩
def linksF (b : Gr) (es : List Ed) : List Lk := es.foldl (fun l x => if x.fr = x.tq then l else l ++ [linkOf b x]) []
theorem linksF_snoc (b : Gr) (es : List Ed) (x : Ed) : linksF b (es ++ [x]) = if x.fr = x.tq then linksF b es else linksF b es ++ [linkOf b x] := snoc_fold _ _ _ _
theorem mem_linksF (b : Gr) (es : List Ed) (L : Lk) : L ∈ linksF b es ↔ ∃ x ∈ es, x.fr ≠ x.tq ∧ L = linkOf b x := by
  induction es using snocInd with
  | h0 => simp [linksF]
  | h1 es x ih =>
    rw [linksF_snoc]
    by_cases hx : x.fr = x.tq
    · rw [if_pos hx, ih]
      constructor
      · rintro ⟨y, hy, h⟩; exact ⟨y, List.mem_append_left _ hy, h⟩
      · rintro ⟨y, hy, h1, h2⟩
        rcases List.mem_append.1 hy with hy | hy
        · exact ⟨y, hy, h1, h2⟩
        · rw [List.mem_singleton.1 hy] at h1; exact absurd hx h1
    · rw [if_neg hx, List.mem_append, ih, List.mem_singleton]
      constructor
      · rintro (⟨y, hy, h⟩ | rfl)
        · exact ⟨y, List.mem_append_left _ hy, h⟩
        · exact ⟨x, by simp, hx, rfl⟩
      · rintro ⟨y, hy, h1, h2⟩
        rcases List.mem_append.1 hy with hy | hy
        · exact .inl ⟨y, hy, h1, h2⟩
        · rw [List.mem_singleton.1 hy] at h2; exact .inr h2
theorem linksF_len (b : Gr) (es : List Ed) : (linksF b es).length ≤ es.length := by
  induction es using snocInd with
  | h0 => simp [linksF]
  | h1 es x ih =>
    rw [linksF_snoc]
    split <;> simp <;> omega

theorem links_ok {a b : Gr} (ha : validE a = 0) (hb : validE b = 0) : LsOk a.ns.length (linksF b a.es) := by
  intro L hL
  obtain ⟨x, hx, hne, rfl⟩ := (mem_linksF b a.es L).1 hL
  obtain ⟨f1, f2⟩ := (edB_iff.1 ((valid_zero ha).2.2.2 x hx)).2
  have hbn := (valid_zero hb).1
  refine ⟨show x.fr.toNat < _ by omega, show x.tq.toNat < _ by omega, show x.fr.toNat ≠ x.tq.toNat by omega, fun v _ => ?_⟩
  refine reachF_small _ _ (fun y hy => ?_) v
  have := (edB_iff.1 ((valid_zero hb).2.2.2 y hy)).2
  omega
theorem first_small {a b : Gr} (hb : validE b = 0) : Small (firstC a b) := firstE_small (firstN_small a b (valid_zero hb).1 _) _
theorem first_zero (a b : Gr) {i : Nat} (h : a.ns.length ≤ i) : firstC a b i = 0 := by
  refine Nat.eq_of_testBit_eq fun t => ?_
  rw [Nat.zero_testBit]
  cases hq : (firstC a b i).testBit t with
  | false => rfl
  | true =>
    have := ((firstE_bit b _ a.es i t).1 hq).1
    unfold firstN at this
    rw [if_neg (by omega), Nat.zero_testBit] at this
    cases this
def EdHas (a b : Gr) (l : List Int) (j : Nat) : Prop := ∃ k, k < b.es.length ∧ b.es.getD k default = want a l j
theorem edHas_iff {a b : Gr} {l : List Int} {j : Nat} : EdHas a b l j ↔ want a l j ∈ b.es := by
  constructor
  · rintro ⟨k, hk, e⟩; rw [← e]; exact getD_mem hk
  · intro h
    obtain ⟨k, hk, e⟩ := List.mem_iff_getElem.1 h
    exact ⟨k, hk, by rw [List.getD_eq_getElem?_getD, List.getElem?_eq_getElem hk]; exact e⟩
theorem reach_want {b : Gr} (hb : validE b = 0) {l : List Int} {x : Ed} (h1 : 0 ≤ l.getD x.fr.toNat 0) (h2 : 0 ≤ l.getD x.tq.toNat 0) :
    (reachF x.ty b.es (l.getD x.fr.toNat 0).toNat).testBit (l.getD x.tq.toNat 0).toNat = true ↔ (⟨x.ty, l.getD x.fr.toNat 0, l.getD x.tq.toNat 0⟩ : Ed) ∈ b.es := by
  rw [reachF_bit]
  constructor
  · rintro ⟨y, hy, e1, e2, e3⟩
    have := (edB_iff.1 ((valid_zero hb).2.2.2 y hy)).2
    have e : y = ⟨x.ty, l.getD x.fr.toNat 0, l.getD x.tq.toNat 0⟩ := by
      obtain ⟨t, f, o⟩ := y
      simp only [Ed.mk.injEq] at *
      exact ⟨e1, by omega, by omega⟩
    rw [← e]; exact hy
  · intro h
    exact ⟨_, h, rfl, rfl, rfl⟩
theorem sol_iff {a b : Gr} (ha : validE a = 0) (hb : validE b = 0) {l : List Int} : Sol a.ns.length (linksF b a.es) (firstC a b) l ↔ l.length = a.ns.length ∧ (∀ j, j < a.ns.length → NdAt a b l j) ∧ ∀ j, j < a.es.length → EdHas a b l j := by
  have hbn := (valid_zero hb).1
  have nd : ∀ j, j < a.ns.length → ((0 ≤ l.getD j 0 ∧ (firstN a b a.ns.length j).testBit (l.getD j 0).toNat = true) ↔ NdAt a b l j) := fun j hj => by
    unfold firstN NdAt
    rw [if_pos hj, rowF_bit]
    constructor
    · rintro ⟨h1, h2, h3⟩; exact ⟨⟨h1, by omega⟩, h3⟩
    · rintro ⟨⟨h1, h2⟩, h3⟩; exact ⟨h1, by omega, h3⟩
  have wt : ∀ j, j < a.es.length → (∀ j, j < a.ns.length → NdAt a b l j) → ((reachF (a.es.getD j default).ty b.es (l.getD (a.es.getD j default).fr.toNat 0).toNat).testBit (l.getD (a.es.getD j default).tq.toNat 0).toNat = true ↔ EdHas a b l j) := fun j hj hn => by
    have hv := valid_at ha hj
    rw [edHas_iff]
    exact reach_want hb (hn _ (by omega)).1.1 (hn _ (by omega)).1.1
  unfold Sol Out
  constructor
  · rintro ⟨⟨h1, h2⟩, h3⟩
    have hn : ∀ j, j < a.ns.length → NdAt a b l j := fun j hj => (nd j hj).1 ⟨(h2 j hj).1, ((firstE_bit b _ a.es j _).1 (h2 j hj).2).1⟩
    refine ⟨h1, hn, fun j hj => (wt j hj hn).1 ?_⟩
    have hv := valid_at ha hj
    have hm : a.es.getD j default ∈ a.es := getD_mem hj
    by_cases hx : (a.es.getD j default).fr = (a.es.getD j default).tq
    · have h4 := ((firstE_bit b _ a.es _ _).1 (h2 (a.es.getD j default).fr.toNat (by omega)).2).2 _ hm hx rfl
      rw [← hx]
      exact ((loopF_bit _ 40 _).1 h4).2
    · unfold okB at h3
      rw [List.all_eq_true] at h3
      exact h3 _ ((mem_linksF b a.es _).2 ⟨_, hm, hx, rfl⟩)
  · rintro ⟨h1, hn, h3⟩
    refine ⟨⟨h1, fun j hj => ⟨(hn j hj).1.1, (firstE_bit b _ a.es j _).2 ⟨((nd j hj).2 (hn j hj)).2, fun x hx e1 e2 => ?_⟩⟩⟩, ?_⟩
    · obtain ⟨i, hi, rfl⟩ := List.mem_iff_getElem.1 hx
      have e : a.es[i] = a.es.getD i default := by rw [List.getD_eq_getElem?_getD, List.getElem?_eq_getElem hi]; rfl
      rw [e] at e1 e2 ⊢
      have h4 := (wt i hi hn).2 (h3 i hi)
      rw [← e1, e2] at h4
      have h5 := (hn j hj).1
      exact (loopF_bit _ 40 _).2 ⟨by omega, h4⟩
    · unfold okB
      rw [List.all_eq_true]
      intro L hL
      obtain ⟨x, hx, hne, rfl⟩ := (mem_linksF b a.es L).1 hL
      obtain ⟨i, hi, rfl⟩ := List.mem_iff_getElem.1 hx
      have e : a.es[i] = a.es.getD i default := by rw [List.getD_eq_getElem?_getD, List.getElem?_eq_getElem hi]; rfl
      rw [e]
      exact (wt i hi hn).2 (h3 i hi)

/-! the edges' images -/
def imL (a b : Gr) (l : List Int) (j : Nat) : List Int := ((List.range b.es.length).filter fun k => decide (b.es.getD k default = want a l j)).map fun (k : Nat) => (k : Int)
def comb : List (List Int) → List Int → List (List Int)
  | [], pre => [pre]
  | q :: r, pre => q.flatMap fun x => comb r (pre ++ [x])
def imLs (a b : Gr) (l : List Int) : List (List Int) := (List.range a.es.length).map (imL a b l)
theorem flatMap_filter {α β : Type} (p : α → Bool) (f : α → List β) (l : List α) : (l.filter p).flatMap f = l.flatMap fun x => if p x = true then f x else [] := by
  induction l with
  | nil => rfl
  | cons x l ih =>
    rw [List.flatMap_cons, List.filter_cons]
    by_cases h : p x = true
    · rw [if_pos h, if_pos h, List.flatMap_cons, ih]
    · rw [if_neg h, if_neg h, List.nil_append, ih]
theorem edR_comb (a b : Gr) (l : List Int) : ∀ (d : Nat) (es : List Int), es.length + d = a.es.length → edR a b l d es = (comb ((List.range' es.length d).map (imL a b l)) es).map (Mo.mk l) := by
  intro d
  induction d with
  | zero => intro es _; rfl
  | succ d ih =>
    intro es h
    rw [List.range'_succ, List.map_cons]
    simp only [edR, comb]
    rw [List.map_flatMap]
    unfold imL
    rw [List.flatMap_map, flatMap_filter]
    congr 1
    funext k
    by_cases hk : b.es.getD k default = want a l es.length
    · rw [if_pos hk, if_pos (by simpa using hk), ih _ (by simp; omega)]
      have hl : (es ++ [(k : Int)]).length = es.length + 1 := by simp
      rw [hl]
      rfl
    · rw [if_neg hk, if_neg (by simpa using hk)]
/-- the program's list -/
def allP (a b : Gr) : List Mo := (solL a.ns.length (linksF b a.es) (firstC a b)).flatMap fun l => (comb (imLs a b l) []).map (Mo.mk l)
theorem allP_eq {a b : Gr} (ha : validE a = 0) (hb : validE b = 0) : allP a b = allR a b := by
  have e : allP a b = (solL a.ns.length (linksF b a.es) (firstC a b)).flatMap fun l => edR a b l a.es.length [] := by
    unfold allP
    congr 1
    funext l
    rw [edR_comb a b l a.es.length [] (by simp)]
    unfold imLs
    rw [List.range_eq_range']
    rfl
  refine allR_of ha hb (fun m => ?_) ?_
  · rw [e, List.mem_flatMap]
    constructor
    · rintro ⟨l, hl, hm⟩
      obtain ⟨h1, h2, _⟩ := (sol_iff ha hb).1 ((mem_solL (first_small hb)).1 hl)
      obtain ⟨g1, _, g2, g3⟩ := (mem_edR (by simp)).1 hm
      subst g1
      exact ⟨ha, hb, h1, g2, h2, fun i hi => edAt_iff.1 (g3 i (Nat.zero_le _) hi)⟩
    · intro h
      have hed : ∀ i, i < a.es.length → EdAt a b m.ns m.es i := fun i hi => edAt_iff.2 (h.ed i hi)
      refine ⟨m.ns, (mem_solL (first_small hb)).2 ((sol_iff ha hb).2 ⟨h.ln, h.nd, fun j hj => ?_⟩), (mem_edR (by simp)).2 ⟨rfl, List.nil_prefix, h.le, fun j _ hj => hed j hj⟩⟩
      obtain ⟨⟨g1, g2⟩, g3⟩ := hed j hj
      exact ⟨_, by omega, g3⟩
  · rw [e, List.pairwise_flatMap]
    refine ⟨fun l _ => edR_asc (by simp), (solL_asc _ _ _).imp fun {l k} hlk m hm n hn => ?_⟩
    obtain ⟨g1, _⟩ := (mem_edR (by simp)).1 hm
    obtain ⟨h1, _⟩ := (mem_edR (by simp)).1 hn
    exact .inl (by rw [g1, h1]; exact hlk)
/-- a node without a choice: no solutions -/
theorem no_choice {n : Nat} {ls : List Lk} {c : Choices} {i : Nat} (hi : i < n) (h : c i = 0) (l : List Int) : ¬ Sol n ls c l := fun hl => by
  have := (hl.1.2 i hi).2
  rw [h, Nat.zero_testBit] at this
  cases this

end Go.Proofs.YtaeelanbkdkppaaDoor

/-
  reachBy and loopsOf: where the edges of a type lead.
-/
namespace Go.Proofs.YtaeelanbkdkppaaDoor
open Go.RowKit

theorem wpList_store_re {ops : Array Oper} {rest : List Oper} {o : Oper} {a : Act} {w : World} {Q : Exit → Act → World → Prop} (hgd : o.guard = none) (x y : Operand) (ho : o.op = .store 107 x y)
    (g : Nat) (c d : Chs) (hx : a.eval x = .pointer (some ⟨g, 0, none⟩)) (hy : a.eval y = .agg (chA c)) (ht : ChAt w 107 g d)
    (h : wpList Tryd.prog ops Q rest (a.put o.dst undef) (w.setRow g (chA c))) : wpList Tryd.prog ops Q (o :: rest) a w := by
  refine wpList_plain hgd fun K hK' => ?_
  have hrun := run_storeVar_row (P := Tryd.prog) w g 107 107 (chA d) (chA c) ht (by rw [chA_size]; exact infoCh') (by rw [chA_size, chA_size]) (chA_all c)
  unfold Oper.wp
  simp [execOp, ho, hx, hy, Instr.storeAt, Instr.sureAddr, hrun, Result.andThen, Oper.upon]
  exact hK' _ _ h
/-- the ends of a valid graph's edges -/
theorem nodes_lt {g : Gr} (h : validE g = 0) {x : Ed} (hx : x ∈ g.es) : 0 ≤ x.fr ∧ x.fr < 40 ∧ 0 ≤ x.tq ∧ x.tq < 40 := by
  have h1 := (valid_zero h).1
  have h2 := (edB_iff.1 ((valid_zero h).2.2.2 x hx)).2
  omega

set_option maxRecDepth 100000 in
set_option maxHeartbeats 2000000 in
theorem reachBy_any (k0 : Int) (g : Gr) (hv : validE g = 0) (An : Option Addr) (cn : Nat) (Ae : Option Addr) (ce : Nat) (w : World) (hT : GrAt w An cn Ae ce g) :
    Calls Tryd.prog 93 #[.int .i64 k0, gval An g.ns.length cn Ae g.es.length ce] w fun e w' => e = .returned (.agg (chA (reachF k0 g.es))) ∧ Below w.heap.size w w' := by
  have HT := Lib.hid hT
  have HV := Lib.hid hv
  have hl8 := (valid_zero hv).2.1
  clear hT hv
  go_enter Tryd.func93, Tryd.ntmps93
  go_upto_region 2 with (simp only [ch_zero])
  generalize hW0 : ((w.alloc _).alloc _).alloc _ = W0
  have hB0 : Below w.heap.size w W0 := by
    rw [← hW0]
    exact (((Below.refl _ _).alloc (Nat.le_refl _) _).alloc (by simp) _).alloc (by simp; omega) _
  have hg0 : W0.heap[w.heap.size]? = some (.cells #[.slice An g.ns.length cn, .slice Ae g.es.length ce] 25 (0, 0)) := by rw [← hW0]; simp only [at_alloc, size_alloc]; repeat (first | rfl | (split; · (first | rfl | omega)))
  have hc0 : ChAt W0 107 (w.heap.size + 1 + 1) (reachF k0 (g.es.take 0)) := by rw [← hW0]; simp only [ChAt, at_alloc, size_alloc]; repeat (first | rfl | (split; · (first | rfl | omega)))
  have hr0 : ChAt W0 107 (w.heap.size + 1) (fun _ => 0) := by rw [← hW0]; simp only [ChAt, at_alloc, size_alloc]; repeat (first | rfl | (split; · (first | rfl | omega)))
  have hs0 : W0.heap.size = w.heap.size + 3 := by rw [← hW0]; simp
  obtain ⟨g1, g2⟩ := cell2 hg0
  have HG0 := Lib.hid hg0
  have HB0 := Lib.hid hB0
  clear hW0 hg0 hB0
  go_upto_region 3 with fail
  clear g1 g2
  go_loopw [11] (fun v wr => ∃ k : Nat, k ≤ g.es.length ∧ v = .int .i64 (k : Int) ∧ ChAt wr 107 (w.heap.size + 1 + 1) (reachF k0 (g.es.take k)) ∧ ChAt wr 107 (w.heap.size + 1) (fun _ => 0) ∧ Below w.heap.size w wr ∧ w.heap.size + 3 ≤ wr.heap.size) (fun v _ => g.es.length - (intOf v).toNat)
  case atStart => exact ⟨0, Nat.zero_le _, rfl, hc0, hr0, HB0.out, by omega⟩
  case round =>
    obtain ⟨k, hk, rfl, q1, q2, q3, q4⟩ := hrel
    clear hc0 hr0 hs0
    by_cases hlt : k < g.es.length
    · obtain ⟨bb, off, rfl, hbb, hc⟩ := Eds.cells (HT.out.es.below q3) hlt
      obtain ⟨c0, c1, c2⟩ := hc k hlt
      have hx := nodes_lt HV.out (getD_mem (d := default) hlt)
      have hsn : g.es.take (k + 1) = g.es.take k ++ [g.es.getD k default] := by
        rw [List.take_add_one, List.getD_eq_getElem?_getD, List.getElem?_eq_getElem hlt]; rfl
      have HSN : Hid (reachF k0 (g.es.take (k + 1)) = if (g.es.getD k default).ty = k0 then upd (reachF k0 (g.es.take k)) (g.es.getD k default).fr.toNat (reachF k0 (g.es.take k) (g.es.getD k default).fr.toNat ||| sh (g.es.getD k default).tq.toNat) else reachF k0 (g.es.take k)) := Lib.hid (by rw [hsn, reachF_snoc])
      have hsm := reachF_small k0 (g.es.take k) (fun y hy => by have := nodes_lt HV.out (List.mem_of_mem_take hy); omega)
      clear hc hsn
      generalize g.es.getD k default = x at *
      obtain ⟨ty, fr, tt⟩ := x
      dsimp only at c0 c1 c2 hx HSN
      obtain ⟨x1, x2, x3, x4⟩ := hx
      obtain ⟨f, rfl⟩ : ∃ f : Nat, fr = (f : Int) := ⟨fr.toNat, by omega⟩
      obtain ⟨t, rfl⟩ : ∃ t : Nat, tt = (t : Int) := ⟨tt.toNat, by omega⟩
      have y1 : f < 40 := by omega
      have y2 : t < 40 := by omega
      have y3 : ((f : Int)).toNat = f := by omega
      have y4 : ((t : Int)).toNat = t := by omega
      rw [y3, y4] at HSN
      generalize reachF k0 (g.es.take k) = C at *
      have hk0 : (0 : Int) ≤ (k : Int) := by omega
      have hk1 : (k : Int) < (g.es.length : Int) := by omega
      have hk2 : ((k : Int)).toNat = k := by omega
      have HQ1 := Lib.hid q1
      have HQ2 := Lib.hid q2
      have HQ3 := Lib.hid q3
      have HQ4 := Lib.hid q4
      clear q1 q2 q3 q4
      have HL := Lib.hid hlt
      have HM : Hid (g.es.length - ((k : Int) + 1).toNat < g.es.length - ((k : Int)).toNat) := Lib.hid (by omega)
      go_upto_region 5 with fail
      generalize hwx : wr.alloc _ = wx
      have hbx : Below wr.heap.size wr wx := by rw [← hwx]; exact (Below.refl _ _).alloc (Nat.le_refl _) _
      have hsx : wx.heap.size = wr.heap.size + 1 := by rw [← hwx]; simp
      have he : wx.heap[wr.heap.size]? = some (.cells #[.int .i64 ty, .int .i64 (f : Int), .int .i64 (t : Int)] 65 (0, 0)) := by rw [← hwx]; exact heap_alloc_new _ _
      clear hwx
      have q1 : ChAt wx 107 (w.heap.size + 1 + 1) C := HQ1.out.up hbx
      have q2 : ChAt wx 107 (w.heap.size + 1) (fun _ => 0) := HQ2.out.up hbx
      obtain ⟨e0, e1, e2⟩ := cell3 he
      have HQ1 := Lib.hid q1
      have HQ2 := Lib.hid q2
      have HB : Hid (Below w.heap.size w wx) := Lib.hid (HQ3.out.trans (hbx.mono (by have := HQ4.out; omega)))
      have HS : Hid (w.heap.size + 3 ≤ wx.heap.size) := Lib.hid (by have := HQ4.out; omega)
      have b1 := q1.cell y1
      have b1f := q1.free f
      clear c0 c1 c2 hbx hsx he q1 q2
      by_cases hk : ty = k0
      · rw [if_pos hk] at HSN
        subst hk
        have HK := Lib.hid hk0
        go_upto_region 6 with fail
        have hw := sh_wrap y2
        have k1 := bits_or_u64_nat (C f) (sh t) (by have := hsm f; omega) (by have := sh_lt y2; omega)
        have HEND : Hid (ChAt (wx.drew.setCell ⟨w.heap.size + 1 + 1, f, none⟩ (.int .u64 ((C f ||| sh t : Nat) : Int))) 107 (w.heap.size + 1 + 1) (reachF ty (g.es.take (k + 1))) ∧ ChAt (wx.drew.setCell ⟨w.heap.size + 1 + 1, f, none⟩ (.int .u64 ((C f ||| sh t : Nat) : Int))) 107 (w.heap.size + 1) (fun _ => 0) ∧ Below w.heap.size w (wx.drew.setCell ⟨w.heap.size + 1 + 1, f, none⟩ (.int .u64 ((C f ||| sh t : Nat) : Int))) ∧ w.heap.size + 3 ≤ (wx.drew.setCell ⟨w.heap.size + 1 + 1, f, none⟩ (.int .u64 ((C f ||| sh t : Nat) : Int))).heap.size) := by
          rw [HSN.out]
          have h1 : ChAt wx.drew 107 (w.heap.size + 1 + 1) C := HQ1.out
          have h2 : ChAt wx.drew 107 (w.heap.size + 1) (fun _ => 0) := HQ2.out
          exact Lib.hid ⟨h1.set f _, h2.other (show w.heap.size + 1 ≠ w.heap.size + 1 + 1 by omega) _, HB.out.drew.setCell (p := ⟨w.heap.size + 1 + 1, f, none⟩) (show w.heap.size ≤ w.heap.size + 1 + 1 by omega) _, by simpa [World.setCell] using HS.out⟩
        go_region
        all_goals (go_wp2; go_roundw)
        case rel => exact ⟨k + 1, HL.out, by go_num, HEND.out⟩
        case measure => exact HM.out
      · rw [if_neg hk] at HSN
        have hke : (ty == k0) = false := by simp [hk]
        go_wp2
        go_roundw
        case rel => exact ⟨k + 1, HL.out, by go_num, by rw [HSN.out]; exact HQ1.out, HQ2.out, HB.out, HS.out⟩
        case measure => exact HM.out
    · obtain rfl : k = g.es.length := by omega
      rw [List.take_length] at q1
      clear hk hlt HB0 HT HV HG0
      go_wp2_with (first | (with_reducible refine wpList_load_re rfl _ rfl (w.heap.size + 1 + 1) _ rfl q1.range ?_) | (with_reducible refine wpList_store_re rfl _ _ rfl (w.heap.size + 1) (reachF k0 g.es) _ rfl rfl q2 ?_))
      refine bodyPost_ret (results_ch rfl _ _ (w.heap.size + 1) (reachF k0 g.es) rfl (q2.setRow _).range) rfl ?_
      exact ⟨rfl, q3.trans (((keeps_setRow (H := fun b => b = w.heap.size + 1) wr (w.heap.size + 1) _ rfl).below (B := w.heap.size) (by omega) (fun i h => by omega)))⟩

theorem wpList_index_re {ops : Array Oper} {rest : List Oper} {o : Oper} {a : Act} {w : World} {Q : Exit → Act → World → Prop} (hgd : o.guard = none) (x y : Operand) (ho : o.op = .index 107 x y)
    (c : Chs) (j : Nat) (hj : j < 40) (hx : a.eval x = .agg (chA c)) (hy : a.eval y = .int .i64 (j : Int))
    (h : wpList Tryd.prog ops Q rest (a.put o.dst (.int .u64 (c j : Int))) w) : wpList Tryd.prog ops Q (o :: rest) a w := by
  refine wpList_plain hgd fun K hK' => ?_
  have hrun := run_index_re c hj w
  unfold Oper.wp
  simp [execOp, ho, hx, hy, hrun, Result.andThen, Oper.upon]
  exact hK' _ _ h

set_option maxRecDepth 100000 in
set_option maxHeartbeats 2000000 in
theorem loopsOf_any (k0 : Int) (g : Gr) (hv : validE g = 0) (An : Option Addr) (cn : Nat) (Ae : Option Addr) (ce : Nat) (w : World) (hT : GrAt w An cn Ae ce g) :
    Calls Tryd.prog 91 #[.int .i64 k0, gval An g.ns.length cn Ae g.es.length ce] w fun e w' => e = .returned (.int .u64 (loopsC k0 g : Int)) ∧ Below w.heap.size w w' := by
  have hb0 : Below w.heap.size w (w.alloc (.cells #[.slice An g.ns.length cn, .slice Ae g.es.length ce] 25 (0, 0))) := (Below.refl _ _).alloc (Nat.le_refl _) _
  have HR := Lib.hid (reachBy_any k0 g hv An cn Ae ce _ (hT.up hb0))
  have hsm := reachF_small k0 g.es (fun y hy => by have := nodes_lt hv hy; omega)
  have HB0 := Lib.hid hb0
  have e0 : loopsC k0 g = loopF (reachF k0 g.es) 40 := rfl
  rw [e0]
  clear hb0 hT hv e0
  generalize reachF k0 g.es = c at HR hsm ⊢
  go_enter Tryd.func91, Tryd.ntmps91
  go_upto_region 3 with (go_at_call 93; refine HR.out.mono ?_; rintro e w1 ⟨rfl, hb1⟩)
  have HB1 : Hid (Below w.heap.size w w1) := Lib.hid (HB0.out.trans (hb1.mono (by simp)))
  clear hb1 HB0 HR
  go_loopw [5, 11] (fun s v wr => ∃ k : Nat, k ≤ 40 ∧ v = .int .i64 (k : Int) ∧ s = .int .u64 (loopF c k : Int) ∧ wr = w1) (fun _ v _ => 40 - (intOf v).toNat)
  case atStart => exact ⟨0, Nat.zero_le _, rfl, rfl, rfl⟩
  case round =>
    obtain ⟨k, hk, rfl, rfl, rfl⟩ := hrel
    by_cases hlt : k < 40
    · have hl1 : (k : Int) < 40 := by omega
      have hl0 : (0 : Int) ≤ (k : Int) := by omega
      have hl2 : ((k : Int)).toNat = k := by omega
      have hsn := loopF_succ c k
      have hlF := loopF_lt hsm k
      have HSN := Lib.hid hsn
      have HL := Lib.hid hlt
      have k1 := bits_and_u64_nat (c k) (sh k) (by have := hsm k; omega) (by have := sh_lt hlt; omega)
      have k3 : (c k &&& sh k) < 1099511627776 := and_lt _ (hsm k)
      have k2 := bits_or_u64_nat (loopF c k) (c k &&& sh k) (by omega) (by omega)
      have hw := sh_wrap hlt
      have HM : Hid (40 - ((k : Int) + 1).toNat < 40 - ((k : Int)).toNat) := Lib.hid (by omega)
      generalize loopF c k = S at *
      generalize (c k &&& sh k) = T at *
      clear hsn
      go_wp2_with (first | (with_reducible refine wpList_index_re rfl _ _ rfl c k HL.out rfl rfl ?_))
      go_roundw
      case rel => exact ⟨k + 1, HL.out, by go_num, by rw [HSN.out], (by first | rfl | trivial)⟩
      case measure => exact HM.out
    · obtain rfl : k = 40 := by omega
      generalize hS : loopF c 40 = S
      have HS := Lib.hid hS
      clear hS
      go_wp2
      go_ret
      exact ⟨by rw [HS.out]; rfl, HB1.out⟩

end Go.Proofs.YtaeelanbkdkppaaDoor

/-
  firstChoices: by types and loops.
-/
namespace Go.Proofs.YtaeelanbkdkppaaDoor
open Go.RowKit

theorem take_snoc {α : Type} [Inhabited α] {l : List α} {k : Nat} (h : k < l.length) : l.take (k + 1) = l.take k ++ [l.getD k default] := by
  rw [List.take_add_one, List.getD_eq_getElem?_getD, List.getElem?_eq_getElem h]; rfl
theorem firstN_succ (a b : Gr) {i : Nat} (h : i < a.ns.length) : firstN a b (i + 1) = upd (firstN a b i) i (rowF b.ns (a.ns.getD i 0) b.ns.length) := by
  funext j
  unfold firstN upd
  by_cases e : j = i
  · subst e; rw [if_pos (by omega), if_pos rfl]
  · rw [if_neg e]
    by_cases h2 : j < i
    · rw [if_pos (by omega)]; exact (if_pos h2).symm
    · rw [if_neg (by omega)]; exact (if_neg h2).symm
theorem upd_upd (c : Choices) (i x y : Nat) : upd (upd c i x) i y = upd c i y := by
  funext j; unfold upd; split <;> rfl
theorem upd_id (c : Choices) (i : Nat) : upd c i (c i) = c := by
  funext j; unfold upd; split
  · rename_i e; rw [e]
  · rfl

theorem results_chc {fn : Func} {p : Tmp} (h : fn.results = #[.cell p 108]) (tmps : Array Value) (w : World) (g : Nat) (c : Chs)
    (hp : tmps.getD p undef = .pointer (some ⟨g, 0, none⟩)) (hg : w.rangeAt g 0 (chL c)) : (results fn tmps).run Tryd.prog w = .ok (.agg (chA c)) w := by
  have hp' : tmps[p]?.getD undef = .pointer (some ⟨g, 0, none⟩) := by simpa using hp
  simp [results, h, hp', asAddr, run_loadVar_mid w g 0 108 (chL c) _ hg Tryd.underlying108 rfl (by rw [chL_length]; exact infoCh), chA]

set_option maxRecDepth 100000 in
set_option maxHeartbeats 4000000 in
theorem firstChoices_any (a b : Gr) (ha : validE a = 0) (hb : validE b = 0) (An : Option Addr) (cn : Nat) (Ae : Option Addr) (ce : Nat) (Bn : Option Addr) (dn : Nat) (Be : Option Addr) (de : Nat) (w : World) (hTa : GrAt w An cn Ae ce a) (hTb : GrAt w Bn dn Be de b) :
    Calls Tryd.prog 78 #[gval An a.ns.length cn Ae a.es.length ce, gval Bn b.ns.length dn Be b.es.length de] w fun e w' => e = .returned (.agg (chA (firstC a b))) ∧ Below w.heap.size w w' := by
  have HTA := Lib.hid hTa
  have HTB := Lib.hid hTb
  have HVA := Lib.hid ha
  have HVB := Lib.hid hb
  have la := (valid_zero ha).1
  have lb := (valid_zero hb).1
  have le := (valid_zero ha).2.1
  clear hTa hTb ha hb
  go_enter Tryd.func78, Tryd.ntmps78
  go_upto_region 2 with (simp only [ch_zero])
  generalize hW0 : (((w.alloc _).alloc _).alloc _).alloc _ = W0
  have hB0 : Below w.heap.size w W0 := by
    rw [← hW0]
    exact ((((Below.refl _ _).alloc (Nat.le_refl _) _).alloc (by simp) _).alloc (by simp; omega) _).alloc (by simp; omega) _
  have hg0 : W0.heap[w.heap.size]? = some (.cells #[.slice An a.ns.length cn, .slice Ae a.es.length ce] 25 (0, 0)) := by rw [← hW0]; simp only [at_alloc, size_alloc]; repeat (first | rfl | (split; · (first | rfl | omega)))
  have hg1 : W0.heap[w.heap.size + 1]? = some (.cells #[.slice Bn b.ns.length dn, .slice Be b.es.length de] 25 (0, 0)) := by rw [← hW0]; simp only [at_alloc, size_alloc]; repeat (first | rfl | (split; · (first | rfl | omega)))
  have hr0 : ChAt W0 108 (w.heap.size + 1 + 1) (fun _ => 0) := by rw [← hW0]; simp only [ChAt, at_alloc, size_alloc]; repeat (first | rfl | (split; · (first | rfl | omega)))
  have hc0 : ChAt W0 108 (w.heap.size + 1 + 1 + 1) (fun _ => 0) := by rw [← hW0]; simp only [ChAt, at_alloc, size_alloc]; repeat (first | rfl | (split; · (first | rfl | omega)))
  have hs0 : W0.heap.size = w.heap.size + 4 := by rw [← hW0]; simp
  obtain ⟨B, hB⟩ : ∃ B, B = w.heap.size := ⟨_, rfl⟩
  rw [← hB] at hg0 hg1 hr0 hc0 hs0 ⊢
  obtain ⟨g1, g2⟩ := cell2 hg0
  have HG0 := Lib.hid hg0
  have HG1 := Lib.hid hg1
  have HR0 := Lib.hid hr0
  have HB0 := Lib.hid hB0
  have HS0 := Lib.hid hs0
  have HBE := Lib.hid hB
  clear hW0 hg0 hg1 hB0 hr0 hs0 hB
  go_upto_region 3 with fail
  clear g1 g2
  go_loopw [15] (fun v wr => ∃ i : Nat, i ≤ a.ns.length ∧ v = .int .i64 (i : Int) ∧ ChAt wr 108 (B + 1 + 1 + 1) (firstN a b i) ∧ Keeps (fun x => x = B + 1 + 1 + 1) W0 wr) (fun v _ => a.ns.length - (intOf v).toNat)
  case atStart => exact ⟨0, Nat.zero_le _, rfl, hc0.ext (fun i _ => by simp [firstN]), Keeps.refl _ _⟩
  case round =>
    obtain ⟨i, hi, rfl, q1, q2⟩ := hrel
    clear hc0
    have qs := q2.size
    have hbel : Below w.heap.size w wr := HB0.out.trans (q2.below (by have := HS0.out; have := HBE.out; omega) (fun j h => by have := HBE.out; omega))
    have p0 := (q2.block B (by have := HS0.out; omega) (by omega)).trans HG0.out
    have p1 := (q2.block (B + 1) (by have := HS0.out; omega) (by omega)).trans HG1.out
    by_cases hlt : i < a.ns.length
    · have HA := Lib.hid (HTA.out.ns.below hbel)
      obtain ⟨bb, off, rfl, hbb, hc⟩ := Ints.cells (HTA.out.ns.below hbel) hlt
      have ci := hc i hlt
      clear hc
      have hsn := firstN_succ a b hlt
      have hsm := firstN_small a b lb i
      have hci : firstN a b i i = 0 := by unfold firstN; rw [if_neg (by omega)]
      have HST : Hid (firstN a b i = upd (firstN a b i) i (rowF b.ns (a.ns.getD i 0) 0)) := Lib.hid (by show _ = upd _ i 0; rw [← hci, upd_id])
      have HSN := Lib.hid hsn
      clear hsn hci
      generalize a.ns.getD i 0 = kd at *
      generalize firstN a b i = C at *
      have hi0 : (0 : Int) ≤ (i : Int) := by omega
      have hi1 : (i : Int) < (a.ns.length : Int) := by omega
      have hi2 : ((i : Int)).toNat = i := by omega
      have hi3 : (i : Int) < 40 := by omega
      obtain ⟨g1, g2⟩ := cell2 p1
      have HQ1 := Lib.hid q1
      have HQ2 := Lib.hid q2
      have HL := Lib.hid hlt
      have HM : Hid (a.ns.length - ((i : Int) + 1).toNat < a.ns.length - ((i : Int)).toNat) := Lib.hid (by omega)
      have HBW := Lib.hid hbel
      have HP1 := Lib.hid p1
      clear q1 q2 qs p0 hbel hlt
      go_upto_region 6 with fail
      clear g1 g2
      go_loopw [23] (fun v wy => ∃ k : Nat, k ≤ b.ns.length ∧ v = .int .i64 (k : Int) ∧ ChAt wy 108 (B + 1 + 1 + 1) (upd C i (rowF b.ns kd k)) ∧ Keeps (fun x => x = B + 1 + 1 + 1) W0 wy) (fun v _ => b.ns.length - (intOf v).toNat)
      case atStart => exact ⟨0, Nat.zero_le _, rfl, by rw [← HST.out]; exact HQ1.out, HQ2.out⟩
      case round =>
        obtain ⟨k, hk, rfl, q1, q2⟩ := hrel
        clear ci HQ1 HQ2 HST HP1
        have hbel : Below w.heap.size w wr := HB0.out.trans (q2.below (by have := HS0.out; have := HBE.out; omega) (fun j h => by have := HBE.out; omega))
        by_cases hlt : k < b.ns.length
        · obtain ⟨b2, off2, rfl, hbb2, hc⟩ := Ints.cells (HTB.out.ns.below hbel) hlt
          have ck := hc k hlt
          clear hc
          have hrs := rowF_succ b.ns kd k
          have hrl := rowF_lt b.ns kd k (by omega)
          have HRS := Lib.hid hrs
          clear hrs
          generalize b.ns.getD k 0 = ot at *
          generalize rowF b.ns kd k = R at *
          have k0 : (0 : Int) ≤ (k : Int) := by omega
          have k1 : (k : Int) < (b.ns.length : Int) := by omega
          have k2 : ((k : Int)).toNat = k := by omega
          have k3 : k < 40 := by omega
          have HQ1 := Lib.hid q1
          have HQ2 := Lib.hid q2
          have HL2 := Lib.hid hlt
          have HM2 : Hid (b.ns.length - ((k : Int) + 1).toNat < b.ns.length - ((k : Int)).toNat) := Lib.hid (by omega)
          have c1 := q1.cell (i := i) (by omega)
          have c1f := q1.free i
          rw [upd_same] at c1
          clear q1 q2 hbel hlt
          by_cases hoe : ot = kd
          · rw [if_pos hoe] at HRS
            subst hoe
            have hw := sh_wrap k3
            have key := bits_or_u64_nat R (sh k) (by omega) (by have := sh_lt k3; omega)
            have HEND : Hid (ChAt (wr.drew.setCell ⟨B + 1 + 1 + 1, i, none⟩ (.int .u64 ((R ||| sh k : Nat) : Int))) 108 (B + 1 + 1 + 1) (upd C i (rowF b.ns ot (k + 1))) ∧ Keeps (fun x => x = B + 1 + 1 + 1) W0 (wr.drew.setCell ⟨B + 1 + 1 + 1, i, none⟩ (.int .u64 ((R ||| sh k : Nat) : Int)))) := by
              rw [HRS.out]
              have h1 : ChAt wr.drew 108 (B + 1 + 1 + 1) (upd C i R) := HQ1.out
              have h2 := h1.set i (R ||| sh k)
              rw [upd_upd] at h2
              exact Lib.hid ⟨h2, (HQ2.out.trans (keeps_drew _ _) fun _ _ h => h).trans (keeps_setCell (H := fun x => x = B + 1 + 1 + 1) _ ⟨B + 1 + 1 + 1, i, none⟩ _ rfl) fun _ _ h => h⟩
            go_upto_region 9 with fail
            go_region
            all_goals (go_wp2; go_roundw)
            case rel => exact ⟨k + 1, HL2.out, by go_num, HEND.out⟩
            case measure => exact HM2.out
          · rw [if_neg hoe] at HRS
            have hke : (ot == kd) = false := by simp [hoe]
            go_wp2
            go_roundw
            case rel => exact ⟨k + 1, HL2.out, by go_num, by rw [HRS.out]; exact HQ1.out, HQ2.out⟩
            case measure => exact HM2.out
        · obtain rfl : k = b.ns.length := by omega
          have HQ1 := Lib.hid q1
          have HQ2 := Lib.hid q2
          clear q1 q2 hbel hlt
          go_wp2
          go_roundw
          case rel => exact ⟨i + 1, HL.out, by go_num, by rw [HSN.out]; exact HQ1.out, HQ2.out⟩
          case measure => exact HM.out
    · obtain rfl : i = a.ns.length := by omega
      obtain ⟨g1, g2⟩ := cell2 p0
      have HQ1 := Lib.hid q1
      have HQ2 := Lib.hid q2
      have hsm0 := firstN_small a b lb a.ns.length
      have HEQ : Hid (firstC a b = firstE b (firstN a b a.ns.length) (a.es.take a.es.length)) := Lib.hid (by rw [List.take_length]; rfl)
      have HF0 : Hid (firstE b (firstN a b a.ns.length) (a.es.take 0) = firstN a b a.ns.length) := Lib.hid rfl
      clear hi hlt q1 q2 qs hbel p0 p1
      generalize firstN a b a.ns.length = N0 at *
      go_upto_region 13 with fail
      clear g1 g2
      go_loopw [43] (fun v wy => ∃ k : Nat, k ≤ a.es.length ∧ v = .int .i64 (k : Int) ∧ ChAt wy 108 (B + 1 + 1 + 1) (firstE b N0 (a.es.take k)) ∧ Keeps (fun x => x = B + 1 + 1 + 1) W0 wy) (fun v _ => a.es.length - (intOf v).toNat)
      case atStart => exact ⟨0, Nat.zero_le _, rfl, by rw [HF0.out]; exact HQ1.out, HQ2.out⟩
      case round =>
        obtain ⟨k, hk, rfl, q1, q2⟩ := hrel
        clear HQ1 HQ2 HF0
        have hbel : Below w.heap.size w wr := HB0.out.trans (q2.below (by have := HS0.out; have := HBE.out; omega) (fun j h => by have := HBE.out; omega))
        have hsz : B + 4 ≤ wr.heap.size := by have := q2.size; have := HS0.out; omega
        by_cases hlt : k < a.es.length
        · obtain ⟨bb, off, rfl, hbb, hc⟩ := Eds.cells (HTA.out.es.below hbel) hlt
          obtain ⟨c0, c1, c2⟩ := hc k hlt
          have hx := nodes_lt HVA.out (getD_mem (d := default) hlt)
          have hsn := firstE_snoc b N0 (a.es.take k) (a.es.getD k default)
          rw [← take_snoc hlt] at hsn
          have hsm := firstE_small (b := b) hsm0 (a.es.take k)
          have HSN := Lib.hid hsn
          clear hc hsn
          generalize a.es.getD k default = x at *
          obtain ⟨ty, fr, tt⟩ := x
          dsimp only at c0 c1 c2 hx HSN
          obtain ⟨x1, x2, x3, x4⟩ := hx
          obtain ⟨f, rfl⟩ : ∃ f : Nat, fr = (f : Int) := ⟨fr.toNat, by omega⟩
          have y1 : f < 40 := by omega
          have y3 : ((f : Int)).toNat = f := by omega
          rw [y3] at HSN
          generalize firstE b N0 (a.es.take k) = C at *
          have hk0 : (0 : Int) ≤ (k : Int) := by omega
          have hk1 : (k : Int) < (a.es.length : Int) := by omega
          have hk2 : ((k : Int)).toNat = k := by omega
          have HQ1 := Lib.hid q1
          have HQ2 := Lib.hid q2
          have HBW := Lib.hid hbel
          have HL := Lib.hid hlt
          have HM : Hid (a.es.length - ((k : Int) + 1).toNat < a.es.length - ((k : Int)).toNat) := Lib.hid (by omega)
          clear q1 q2 hbel hlt
          go_upto_region 15 with fail
          generalize hwx : wr.alloc _ = wx
          have hbx : Below wr.heap.size wr wx := by rw [← hwx]; exact (Below.refl _ _).alloc (Nat.le_refl _) _
          have hsx : wx.heap.size = wr.heap.size + 1 := by rw [← hwx]; simp
          have he : wx.heap[wr.heap.size]? = some (.cells #[.int .i64 ty, .int .i64 (f : Int), .int .i64 tt] 65 (0, 0)) := by rw [← hwx]; exact heap_alloc_new _ _
          clear hwx
          have q1 : ChAt wx 108 (B + 1 + 1 + 1) C := HQ1.out.up hbx
          have q2 : Keeps (fun x => x = B + 1 + 1 + 1) W0 wx := HQ2.out.trans (Keeps.of_below' _ hbx) fun _ _ h => h
          have q3 : Below w.heap.size w wx := HBW.out.trans (hbx.mono (by have := HBE.out; omega))
          have p1 : wx.heap[B + 1]? = some (.cells #[.slice Bn b.ns.length dn, .slice Be b.es.length de] 25 (0, 0)) := (q2.block (B + 1) (by have := HS0.out; omega) (by omega)).trans HG1.out
          obtain ⟨e0, e1, e2⟩ := cell3 he
          clear c0 c1 c2 hbx HQ1 HQ2 HBW
          obtain ⟨eb, heb⟩ : ∃ eb, wr.heap.size = eb := ⟨_, rfl⟩
          rw [heb] at hsz hsx he e0 e1 e2 ⊢
          clear heb
          have HQ1 := Lib.hid q1
          have HQ2 := Lib.hid q2
          by_cases hft : (f : Int) = tt
          · rw [if_pos hft] at HSN
            subst hft
            have HLO := Lib.hid (loopsOf_any ty b HVB.out Bn dn Be de wx.drew (HTB.out.up q3.drew))
            have hll : loopsC ty b < 1099511627776 := loopF_lt (reachF_small _ _ (fun y hy => by have := nodes_lt HVB.out hy; omega)) 40
            generalize loopsC ty b = L at *
            have key := bits_and_u64_nat (C f) L (by have := hsm f; omega) (by omega)
            have b1 := q1.cell y1
            have b1f := q1.free f
            obtain ⟨g1, g2⟩ := cell2 p1
            have HE := Lib.hid he
            have HP1 := Lib.hid p1
            have hne : eb ≠ B + 1 + 1 + 1 := by omega
            clear q1 q2 he p1
            go_upto_region 16 with fail
            have HNE := Lib.hid hne
            have HS : Hid ((fun u : World => u.cell? ⟨eb, 0, none⟩ = some (.int .i64 ty) ∧ u.cell? ⟨eb, 1, none⟩ = some (.int .i64 (f : Int)) ∧ u.cell? ⟨B + 1, 0, none⟩ = some (.slice Bn b.ns.length dn) ∧ u.cell? ⟨B + 1, 1, none⟩ = some (.slice Be b.es.length de)) wx.drew) := Lib.hid ⟨e0, e1, g1, g2⟩
            clear hne e0 e1 e2 g1 g2 hsz hsx
            refine wp_region_noPanic ?_
            refine wp_region_held_drew (S := (fun u : World => u.cell? ⟨eb, 0, none⟩ = some (.int .i64 ty) ∧ u.cell? ⟨eb, 1, none⟩ = some (.int .i64 (f : Int)) ∧ u.cell? ⟨B + 1, 0, none⟩ = some (.slice Bn b.ns.length dn) ∧ u.cell? ⟨B + 1, 1, none⟩ = some (.slice Be b.es.length de))) (by kernel_rfl) (HS.out) (fun hHeld => ?_)
            refine wpAnyH_take (i := 0) (v := ?_) (oper_at (r := _) rfl) (by kernel_rfl) (by kernel_rfl) (by kernel_rfl) (fun _ _ _ h => h) (Or.inl ⟨by rfl, ?_⟩) (by assumption) ?_
            rotate_left
            · intro w hSw; try dsimp only at hSw
              go_simp
              try with_reducible rfl
            try simp only [Act.put, List.setIfInBounds_toArray, List.set_cons_zero, List.set_cons_succ]
            refine wpAnyH_take (i := 1) (v := ?_) (oper_at (r := _) rfl) (by kernel_rfl) (by kernel_rfl) (by kernel_rfl) (fun _ _ _ h => h) (Or.inl ⟨by rfl, ?_⟩) (by assumption) ?_
            rotate_left
            · intro w hSw; try dsimp only at hSw
              go_simp
              try with_reducible rfl
            try simp only [Act.put, List.setIfInBounds_toArray, List.set_cons_zero, List.set_cons_succ]
            refine wpAnyH_take (i := 2) (v := ?_) (oper_at (r := _) rfl) (by kernel_rfl) (by kernel_rfl) (by kernel_rfl) (fun _ _ _ h => h) (Or.inl ⟨by rfl, ?_⟩) (by assumption) ?_
            rotate_left
            · intro w hSw; try dsimp only at hSw
              go_simp
              try with_reducible rfl
            try simp only [Act.put, List.setIfInBounds_toArray, List.set_cons_zero, List.set_cons_succ]
            refine wpAnyH_take (i := 4) (v := ?_) (oper_at (r := _) rfl) (by kernel_rfl) (by kernel_rfl) (by kernel_rfl) (fun _ _ _ h => h) (Or.inl ⟨by rfl, ?_⟩) (by assumption) ?_
            rotate_left
            · intro w hSw; try dsimp only at hSw
              go_simp
              try with_reducible rfl
            try simp only [Act.put, List.setIfInBounds_toArray, List.set_cons_zero, List.set_cons_succ]
            refine wpAnyH_take (i := 5) (v := ?_) (oper_at (r := _) rfl) (by kernel_rfl) (by kernel_rfl) (by kernel_rfl) (fun _ _ _ h => h) (Or.inl ⟨by rfl, ?_⟩) (by assumption) ?_
            rotate_left
            · intro w hSw; try dsimp only at hSw
              go_simp
              try with_reducible rfl
            try simp only [Act.put, List.setIfInBounds_toArray, List.set_cons_zero, List.set_cons_succ]
            refine wpAnyH_take (i := 6) (v := ?_) (oper_at (r := _) rfl) (by kernel_rfl) (by kernel_rfl) (by kernel_rfl) (fun _ _ _ h => h) (Or.inl ⟨by rfl, ?_⟩) (by assumption) ?_
            rotate_left
            · intro w hSw; try dsimp only at hSw
              go_simp
              try with_reducible rfl
            try simp only [Act.put, List.setIfInBounds_toArray, List.set_cons_zero, List.set_cons_succ]
            refine wpAnyH_ready (rs := [3, 7]) (by kernel_rfl) (by simp) ?_
            refine AllReadyH.cons (oper_at (r := _) rfl) (fun K hK => ?_) (AllReadyH.cons (oper_at (r := _) rfl) (fun K hK => ?_) AllReadyH.nil)
            · go_simp
              refine hK.out _ _ (HS.out) (fun _ => ?_)
              clear hK K
              try simp only [Act.put, List.setIfInBounds_toArray, List.set_cons_zero, List.set_cons_succ]
              refine wpAnyH_ready (rs := [7]) (by kernel_rfl) (by simp) ?_
              refine AllReadyH.cons (oper_at (r := _) rfl) (fun K hK => ?_) AllReadyH.nil
              go_simp
              refine HLO.out.mono ?_
              rintro e w4 ⟨rfl, hb4⟩
              have q4 : ChAt w4 108 (B + 1 + 1 + 1) C := (show ChAt wx.drew _ _ _ from HQ1.out).up hb4
              have HS2 : Hid (w4.cell? ⟨eb, 0, none⟩ = some (.int .i64 ty) ∧ w4.cell? ⟨eb, 1, none⟩ = some (.int .i64 (f : Int)) ∧ w4.cell? ⟨B + 1, 0, none⟩ = some (.slice Bn b.ns.length dn) ∧ w4.cell? ⟨B + 1, 1, none⟩ = some (.slice Be b.es.length de)) := by
                have h1 := cell3 (heap_up (w := wx.drew) hb4 HE.out)
                have h2 := cell2 (heap_up (w := wx.drew) hb4 HP1.out)
                exact Lib.hid ⟨h1.1, h1.2.1, h2.1, h2.2⟩
              have HS3 : Hid ((w4.setCell ⟨B + 1 + 1 + 1, f, none⟩ (.int .u64 ((C f &&& L : Nat) : Int))).cell? ⟨eb, 0, none⟩ = some (.int .i64 ty) ∧ (w4.setCell ⟨B + 1 + 1 + 1, f, none⟩ (.int .u64 ((C f &&& L : Nat) : Int))).cell? ⟨eb, 1, none⟩ = some (.int .i64 (f : Int)) ∧ (w4.setCell ⟨B + 1 + 1 + 1, f, none⟩ (.int .u64 ((C f &&& L : Nat) : Int))).cell? ⟨B + 1, 0, none⟩ = some (.slice Bn b.ns.length dn) ∧ (w4.setCell ⟨B + 1 + 1 + 1, f, none⟩ (.int .u64 ((C f &&& L : Nat) : Int))).cell? ⟨B + 1, 1, none⟩ = some (.slice Be b.es.length de)) := by
                obtain ⟨h1, h2, h3, h4⟩ := HS2.out
                exact Lib.hid ⟨(World.cell?_setCell_far _ ⟨B + 1 + 1 + 1, f, none⟩ ⟨eb, 0, none⟩ _ (Ne.symm HNE.out)).trans h1, (World.cell?_setCell_far _ ⟨B + 1 + 1 + 1, f, none⟩ ⟨eb, 1, none⟩ _ (Ne.symm HNE.out)).trans h2, (World.cell?_setCell_far _ ⟨B + 1 + 1 + 1, f, none⟩ ⟨B + 1, 0, none⟩ _ (show B + 1 + 1 + 1 ≠ B + 1 by omega)).trans h3, (World.cell?_setCell_far _ ⟨B + 1 + 1 + 1, f, none⟩ ⟨B + 1, 1, none⟩ _ (show B + 1 + 1 + 1 ≠ B + 1 by omega)).trans h4⟩
              have HEND : Hid (ChAt (w4.setCell ⟨B + 1 + 1 + 1, f, none⟩ (.int .u64 ((C f &&& L : Nat) : Int))) 108 (B + 1 + 1 + 1) (firstE b N0 (a.es.take (k + 1))) ∧ Keeps (fun x => x = B + 1 + 1 + 1) W0 (w4.setCell ⟨B + 1 + 1 + 1, f, none⟩ (.int .u64 ((C f &&& L : Nat) : Int)))) := by
                rw [HSN.out]
                exact Lib.hid ⟨q4.set f _, ((HQ2.out.trans (keeps_drew _ _) fun _ _ h => h).trans (Keeps.of_below' _ hb4) fun _ _ h => h).trans (keeps_setCell (H := fun x => x = B + 1 + 1 + 1) _ ⟨B + 1 + 1 + 1, f, none⟩ _ rfl) fun _ _ h => h⟩
              have d1 := q4.cell y1
              have d1f := q4.free f
              clear hb4 q4
              go_wp2_with fail
              refine hK.out _ _ (HS2.out) (fun _ => ?_)
              clear hK K
              try simp only [Act.put, List.setIfInBounds_toArray, List.set_cons_zero, List.set_cons_succ]
              refine wpAnyH_take (i := 8) (v := ?_) (oper_at (r := _) rfl) (by kernel_rfl) (by kernel_rfl) (by kernel_rfl) (fun _ _ _ h => h) (Or.inl ⟨by rfl, ?_⟩) (by assumption) ?_
              rotate_left
              · intro w hSw; try dsimp only at hSw
                go_simp
                try with_reducible rfl
              try simp only [Act.put, List.setIfInBounds_toArray, List.set_cons_zero, List.set_cons_succ]
              refine wpAnyH_take (i := 9) (v := ?_) (oper_at (r := _) rfl) (by kernel_rfl) (by kernel_rfl) (by kernel_rfl) (fun _ _ _ h => h) (Or.inl ⟨by rfl, ?_⟩) (by assumption) ?_
              rotate_left
              · intro w hSw; try dsimp only at hSw
                go_simp
                try with_reducible rfl
              try simp only [Act.put, List.setIfInBounds_toArray, List.set_cons_zero, List.set_cons_succ]
              refine wpAnyH_ready (rs := [10]) (by kernel_rfl) (by simp) ?_
              refine AllReadyH.cons (oper_at (r := _) rfl) (fun K hK => ?_) AllReadyH.nil
              go_simp
              refine hK.out _ _ (by first | exact HS3.out | assumption) (fun _ => ?_)
              clear hK K
              try simp only [Act.put, List.setIfInBounds_toArray, List.set_cons_zero, List.set_cons_succ]
              refine wpAnyH_done (by kernel_rfl) ?_ _
              refine NoPanic.normal ?_
              go_wp2
              go_roundw
              case rel => exact ⟨k + 1, HL.out, by go_num, HEND.out⟩
              case measure => exact HM.out
            · go_simp
              refine HLO.out.mono ?_
              rintro e w4 ⟨rfl, hb4⟩
              have q4 : ChAt w4 108 (B + 1 + 1 + 1) C := (show ChAt wx.drew _ _ _ from HQ1.out).up hb4
              have HS2 : Hid (w4.cell? ⟨eb, 0, none⟩ = some (.int .i64 ty) ∧ w4.cell? ⟨eb, 1, none⟩ = some (.int .i64 (f : Int)) ∧ w4.cell? ⟨B + 1, 0, none⟩ = some (.slice Bn b.ns.length dn) ∧ w4.cell? ⟨B + 1, 1, none⟩ = some (.slice Be b.es.length de)) := by
                have h1 := cell3 (heap_up (w := wx.drew) hb4 HE.out)
                have h2 := cell2 (heap_up (w := wx.drew) hb4 HP1.out)
                exact Lib.hid ⟨h1.1, h1.2.1, h2.1, h2.2⟩
              have HS3 : Hid ((w4.setCell ⟨B + 1 + 1 + 1, f, none⟩ (.int .u64 ((C f &&& L : Nat) : Int))).cell? ⟨eb, 0, none⟩ = some (.int .i64 ty) ∧ (w4.setCell ⟨B + 1 + 1 + 1, f, none⟩ (.int .u64 ((C f &&& L : Nat) : Int))).cell? ⟨eb, 1, none⟩ = some (.int .i64 (f : Int)) ∧ (w4.setCell ⟨B + 1 + 1 + 1, f, none⟩ (.int .u64 ((C f &&& L : Nat) : Int))).cell? ⟨B + 1, 0, none⟩ = some (.slice Bn b.ns.length dn) ∧ (w4.setCell ⟨B + 1 + 1 + 1, f, none⟩ (.int .u64 ((C f &&& L : Nat) : Int))).cell? ⟨B + 1, 1, none⟩ = some (.slice Be b.es.length de)) := by
                obtain ⟨h1, h2, h3, h4⟩ := HS2.out
                exact Lib.hid ⟨(World.cell?_setCell_far _ ⟨B + 1 + 1 + 1, f, none⟩ ⟨eb, 0, none⟩ _ (Ne.symm HNE.out)).trans h1, (World.cell?_setCell_far _ ⟨B + 1 + 1 + 1, f, none⟩ ⟨eb, 1, none⟩ _ (Ne.symm HNE.out)).trans h2, (World.cell?_setCell_far _ ⟨B + 1 + 1 + 1, f, none⟩ ⟨B + 1, 0, none⟩ _ (show B + 1 + 1 + 1 ≠ B + 1 by omega)).trans h3, (World.cell?_setCell_far _ ⟨B + 1 + 1 + 1, f, none⟩ ⟨B + 1, 1, none⟩ _ (show B + 1 + 1 + 1 ≠ B + 1 by omega)).trans h4⟩
              have HEND : Hid (ChAt (w4.setCell ⟨B + 1 + 1 + 1, f, none⟩ (.int .u64 ((C f &&& L : Nat) : Int))) 108 (B + 1 + 1 + 1) (firstE b N0 (a.es.take (k + 1))) ∧ Keeps (fun x => x = B + 1 + 1 + 1) W0 (w4.setCell ⟨B + 1 + 1 + 1, f, none⟩ (.int .u64 ((C f &&& L : Nat) : Int)))) := by
                rw [HSN.out]
                exact Lib.hid ⟨q4.set f _, ((HQ2.out.trans (keeps_drew _ _) fun _ _ h => h).trans (Keeps.of_below' _ hb4) fun _ _ h => h).trans (keeps_setCell (H := fun x => x = B + 1 + 1 + 1) _ ⟨B + 1 + 1 + 1, f, none⟩ _ rfl) fun _ _ h => h⟩
              have d1 := q4.cell y1
              have d1f := q4.free f
              clear hb4 q4
              go_wp2_with fail
              refine hK.out _ _ (HS2.out) (fun _ => ?_)
              clear hK K
              try simp only [Act.put, List.setIfInBounds_toArray, List.set_cons_zero, List.set_cons_succ]
              refine wpAnyH_ready (rs := [3]) (by kernel_rfl) (by simp) ?_
              refine AllReadyH.cons (oper_at (r := _) rfl) (fun K hK => ?_) AllReadyH.nil
              go_simp
              refine hK.out _ _ (HS2.out) (fun _ => ?_)
              clear hK K
              try simp only [Act.put, List.setIfInBounds_toArray, List.set_cons_zero, List.set_cons_succ]
              refine wpAnyH_take (i := 8) (v := ?_) (oper_at (r := _) rfl) (by kernel_rfl) (by kernel_rfl) (by kernel_rfl) (fun _ _ _ h => h) (Or.inl ⟨by rfl, ?_⟩) (by assumption) ?_
              rotate_left
              · intro w hSw; try dsimp only at hSw
                go_simp
                try with_reducible rfl
              try simp only [Act.put, List.setIfInBounds_toArray, List.set_cons_zero, List.set_cons_succ]
              refine wpAnyH_take (i := 9) (v := ?_) (oper_at (r := _) rfl) (by kernel_rfl) (by kernel_rfl) (by kernel_rfl) (fun _ _ _ h => h) (Or.inl ⟨by rfl, ?_⟩) (by assumption) ?_
              rotate_left
              · intro w hSw; try dsimp only at hSw
                go_simp
                try with_reducible rfl
              try simp only [Act.put, List.setIfInBounds_toArray, List.set_cons_zero, List.set_cons_succ]
              refine wpAnyH_ready (rs := [10]) (by kernel_rfl) (by simp) ?_
              refine AllReadyH.cons (oper_at (r := _) rfl) (fun K hK => ?_) AllReadyH.nil
              go_simp
              refine hK.out _ _ (by first | exact HS3.out | assumption) (fun _ => ?_)
              clear hK K
              try simp only [Act.put, List.setIfInBounds_toArray, List.set_cons_zero, List.set_cons_succ]
              refine wpAnyH_done (by kernel_rfl) ?_ _
              refine NoPanic.normal ?_
              go_wp2
              go_roundw
              case rel => exact ⟨k + 1, HL.out, by go_num, HEND.out⟩
              case measure => exact HM.out
          · rw [if_neg hft] at HSN
            have hke : (((f : Int)) == tt) = false := by simp [hft]
            clear q1 q2 he p1
            go_wp2
            go_roundw
            case rel => exact ⟨k + 1, HL.out, by go_num, by rw [HSN.out]; exact HQ1.out, HQ2.out⟩
            case measure => exact HM.out
        · obtain rfl : k = a.es.length := by omega
          rw [← HEQ.out] at q1
          have HR1 : Hid (ChAt wr 108 (B + 1 + 1) (fun _ => 0)) := Lib.hid ((q2.block (B + 1 + 1) (by have := HS0.out; omega) (by omega)).trans HR0.out)
          have HQ1 := Lib.hid q1
          have HBW := Lib.hid hbel
          clear q1 q2 hbel hlt HEQ hk
          generalize hfc : firstC a b = FC at *
          have HFC := Lib.hid hfc
          clear hfc
          go_wp2_with (first | (with_reducible refine wpList_load_ch rfl _ rfl (B + 1 + 1 + 1) _ rfl HQ1.out.range ?_) | (with_reducible refine wpList_store_ch rfl _ _ rfl (B + 1 + 1) FC _ rfl rfl HR1.out ?_))
          refine bodyPost_ret (results_chc rfl _ _ (B + 1 + 1) FC rfl (HR1.out.setRow _).range) rfl ?_
          exact ⟨by rw [HFC.out], HBW.out.trans (((keeps_setRow (H := fun b => b = B + 1 + 1) wr (B + 1 + 1) _ rfl).below (B := w.heap.size) (by have := HBE.out; omega) (fun i h => by have := HBE.out; omega)))⟩

end Go.Proofs.YtaeelanbkdkppaaDoor

/-
  Slices: Clone at ints and edges, Grow and Concat at ints, Equal at ints and edges, SameInts of the reference.
-/
namespace Go.Proofs.YtaeelanbkdkppaaDoor
open Go.RowKit

theorem reads_cells {α : Type} {E : El α} {w : World} {b off : Nat} {xs : List α} (hp : 0 < E.size) (h : ∀ i x, xs[i]? = some x → ∀ j u, (E.enc x)[j]? = some u → w.cell? ⟨b, off + i * E.size + j, none⟩ = some u) : ∀ j u, (cellsE E xs)[j]? = some u → w.cell? ⟨b, off + j, none⟩ = some u := by
  intro j u hu
  have hj : j < (cellsE E xs).length := by
    rcases Nat.lt_or_ge j (cellsE E xs).length with h1 | h1
    · exact h1
    · rw [List.getElem?_eq_none h1] at hu; cases hu
  rw [cellsE_length] at hj
  have hd : j / E.size < xs.length := (Nat.div_lt_iff_lt_mul hp).2 hj
  have hm : j % E.size < E.size := Nat.mod_lt _ hp
  have hx : xs[j / E.size]? = some xs[j / E.size] := List.getElem?_eq_getElem hd
  have hv : (E.enc xs[j / E.size])[j % E.size]? = some ((E.enc xs[j / E.size])[j % E.size]'(by rw [E.len]; exact hm)) := List.getElem?_eq_getElem _
  have h2 := cellsE_get E hx hv
  have e : j / E.size * E.size + j % E.size = j := by rw [Nat.mul_comm]; exact Nat.div_add_mod j E.size
  rw [e, hu] at h2
  have h3 := h _ _ hx _ _ hv
  rw [show off + j / E.size * E.size + j % E.size = off + j by omega] at h3
  rw [h3, h2]

theorem cloneI_nil (n c : Nat) (w : World) :
    Calls Tryd.prog 41 #[.slice none n c] w fun e w' => e = .returned (.slice none 0 0) ∧ w = w' := by
  have q22 : ∀ (w : World) (a : Option Addr) (n c n' c' : Nat), (binOp .eql 22 (.slice a n c) (.slice none n' c')).run Tryd.prog w = .ok (.bool a.isNone) w := fun w a n c n' c' => Lib.run_eql_slice_nil w _ _ a n c n' c' Tryd.underlying22
  go_enter Tryd.func41, Tryd.ntmps41
  go_wp2
  go_ret
  exact ⟨rfl, rfl⟩
set_option maxHeartbeats 2000000 in
set_option maxRecDepth 100000 in
theorem cloneI_some (xs : List (Int)) (ad : Addr) (c : Nat) (w : World) (hl : xs.length ≤ 1000000) (h : ∀ j u, (cellsE EInt xs)[j]? = some u → w.cell? (ad.add j) = some u) :
    Calls Tryd.prog 41 #[.slice (some ad) xs.length c] w fun e w' => ∃ v, e = .returned v ∧ OwnE EInt 3 w' w.heap.size v xs ∧ Below w.heap.size w w' := by
  have q22 : ∀ (w : World) (a : Option Addr) (n c n' c' : Nat), (binOp .eql 22 (.slice a n c) (.slice none n' c')).run Tryd.prog w = .ok (.bool a.isNone) w := fun w a n c n' c' => Lib.run_eql_slice_nil w _ _ a n c n' c' Tryd.underlying22
  obtain ⟨i0, hi, hz0, hz1, hz2⟩ := info_parts infoInt
  have HC := Lib.hid h
  clear h
  go_enter Tryd.func41, Tryd.ntmps41
  go_wp2_with (at_builtin; refine wpList_append_own _ rfl _ _ 22 rfl w.heap.size 3 i0 (.int .i64 0) 1 8 Tryd.underlying22 hi hz0 hz1 hz2 rfl (by decide) _ _ _ rfl (World.ownsRow_made w #[] 0 (Nat.le_refl _) (Nat.zero_le _) (by simp)) ad xs.length c (cellsE EInt xs) rfl ?qc1 ?qc2 ?qc3 ?qc4 ?qc5 ?qc6 ?_)
  case qc1 => exact cellsE_length EInt xs
  case qc2 =>
    intro j u hj
    exact (World.cell?_alloc_lt w _ _ (World.block_lt_of_cell? w _ (HC.out j u hj))).trans (HC.out j u hj)
  case qc3 => exact cellsE_one EInt xs
  case qc4 => unfold maxLen; omega
  case qc5 => omega
  case qc6 => simp
  intro v' w1 hown hgrow hnil
  go_wp2
  go_ret
  refine ⟨v', rfl, (by simpa using hown : w1.ownsRow w.heap.size 3 1 v' xs.length (cellsE EInt xs)), ?_⟩
  exact ((Below.refl _ w).alloc (Nat.le_refl _) _).grown hgrow (by simp) (by intro k hk; simp [Value.ownBlock] at hk; omega)
/-- a copy, in memory of the call's own -/
theorem cloneI_any (xs : List (Int)) (A : Option Addr) (B c : Nat) (w : World) (hl : xs.length ≤ 1000000) (hT : Reads EInt w B A xs) :
    Calls Tryd.prog 41 #[.slice A xs.length c] w fun e w' => ∃ v, e = .returned v ∧ OwnE EInt 3 w' w.heap.size v xs ∧ Below w.heap.size w w' := by
  have fin : ∀ e w', (∃ v, e = Ending.returned v ∧ OwnE EInt 3 w' w.heap.size v xs ∧ Below w.heap.size w w') → ∃ v, e = .returned v ∧ OwnE EInt 3 w' w.heap.size v xs ∧ Below w.heap.size w w' := by
    exact fun e w' h => h
  rcases hT with rfl | ⟨b, off, rfl, _, h⟩
  · rcases A with _ | ad
    · refine (cloneI_nil 0 c w).mono ?_
      rintro e w' ⟨rfl, rfl⟩
      exact ⟨_, rfl, OwnE.nil _ _ _, Below.refl _ _⟩
    · exact (cloneI_some [] ad c w (by simp) (by intro j u hj; simp [cellsE] at hj)).mono fin
  · refine (cloneI_some xs ⟨b, off, none⟩ c w hl (fun j u hu => ?_)).mono fin
    rw [addr_plain]
    exact reads_cells (by decide) h j u hu


set_option maxHeartbeats 1000000 in
theorem equal_any (xs ys : List Int) (A A' : Option Addr) (B B' c c' : Nat) (w : World) (hx : xs.length ≤ maxLen) (hA : Ints w B A xs) (hB : Ints w B' A' ys) :
    Calls Tryd.prog 48 #[.slice A xs.length c, .slice A' ys.length c'] w fun e w' => e = .returned (.bool (decide (xs = ys))) ∧ Below w.heap.size w w' := by
  unfold maxLen at hx
  by_cases hl : xs.length = ys.length
  · have t : ((xs.length : Int) != (ys.length : Int)) = false := by simp; omega
    have HA := Lib.hid hA
    have HB := Lib.hid hB
    have HLN := Lib.hid hl
    have hyl : ys.length ≤ xs.length := by omega
    have hxl : xs.length ≤ ys.length := by omega
    clear hA hB hl
    go_enter Tryd.func48, Tryd.ntmps48
    go_wp2
    go_loopw [13] (fun i wr => ∃ k q : Nat, k ≤ xs.length ∧ i = .int .i64 k ∧ wr = w.drewN q ∧ ∀ j, j < k → xs.getD j 0 = ys.getD j 0) (fun i _ => xs.length - (intOf i).toNat)
    case atStart => exact ⟨0, 0, Nat.zero_le _, rfl, rfl, fun j hj => by omega⟩
    case round =>
      obtain ⟨k, q, hk, rfl, rfl, hs⟩ := hrel
      have HS := Lib.hid hs
      clear hs
      by_cases hlt : k < xs.length
      · have hlt' : k < ys.length := by omega
        obtain ⟨b, off, rfl, hb, hc⟩ := Ints.cells HA.out hlt
        obtain ⟨b', off', rfl, hb', hd⟩ := Ints.cells HB.out hlt'
        have ck := hc k hlt
        have dk := hd k hlt'
        clear hc hd
        have hk0 : (0 : Int) ≤ (k : Int) := by omega
        have hk1 : (k : Int) < (xs.length : Int) := by omega
        have hk1' : (k : Int) < (ys.length : Int) := by omega
        have hk2 : ((k : Int)).toNat = k := by omega
        by_cases he : xs.getD k 0 = ys.getD k 0
        · have HE := Lib.hid he
          rw [he] at ck
          generalize ys.getD k 0 = y at ck dk
          clear he
          have t2 : (y != y) = false := by simp
          go_wp2_with fail
          go_quiet (fail)
          go_wp2_with fail
          go_roundw
          case rel => exact ⟨k + 1, _, by omega, by go_num, rfl, fun j hj => by
            by_cases e : j = k
            · subst e; exact HE.out
            · exact HS.out j (by omega)⟩
          case measure => simp [intOf]; omega
        · have H := Lib.hid (show decide (xs = ys) = false from decide_eq_false (fun h => he (by rw [h])))
          generalize xs.getD k 0 = x at ck he
          generalize ys.getD k 0 = y at dk he
          have t2 : (x != y) = true := by simp [bne, he]
          clear he
          go_wp2_with fail
          go_quiet (fail)
          go_wp2_with fail
          go_ret
          exact ⟨ret_bool (by rw [H.out]), below_draws (below_draws (Below.refl _ _) q) _⟩
      · have H := Lib.hid (show decide (xs = ys) = true from decide_eq_true (by
          apply List.ext_getElem HLN.out
          intro j h1 h2
          have := HS.out j (by omega)
          simpa [List.getD, h1, h2] using this))
        go_wp2
        go_ret
        exact ⟨ret_bool (by rw [H.out]), below_draws (Below.refl _ _) q⟩
  · have t : ((xs.length : Int) != (ys.length : Int)) = true := by simp; omega
    have H := Lib.hid (show decide (xs = ys) = false from decide_eq_false (fun h => hl (by rw [h])))
    clear hl hA hB
    go_enter Tryd.func48, Tryd.ntmps48
    go_wp2
    go_ret
    exact ⟨ret_bool (by rw [H.out]), Below.refl _ _⟩

end Go.Proofs.YtaeelanbkdkppaaDoor

/-
  Graphs: Valid, of the program and the reference.
-/
namespace Go.Proofs.YtaeelanbkdkppaaDoor
open Go.RowKit

abbrev edv (x : Ed) : Value := .agg #[.int .i64 x.ty, .int .i64 x.fr, .int .i64 x.tq]
theorem edB_and (x : Ed) (n : Nat) : edB x n = (idxB x.ty 100 && idxB x.fr n && idxB x.tq n) := rfl

set_option maxHeartbeats 1000000 in
theorem isEdge_any (x : Ed) (An : Option Addr) (n cn : Nat) (Ae : Option Addr) (m ce : Nat) (w : World) :
    Calls Tryd.prog 66 #[gval An n cn Ae m ce, edv x] w fun e w' => e = .returned (.bool (edB x n)) ∧ Below w.heap.size w w' := by
  have HX := Lib.hid (edB_and x n)
  have H1 : Hid (∀ u, Calls Tryd.prog 65 #[.int .i64 x.ty, .int .i64 100] u fun e w' => e = .returned (.bool (idxB x.ty 100)) ∧ u = w') := Lib.hid fun u => isIndex_any x.ty 100 u
  have H2 := Lib.hid (fun u => isIndex_any x.fr n u)
  have H3 := Lib.hid (fun u => isIndex_any x.tq n u)
  have HB : Hid (∀ o o', Below w.heap.size w ((w.alloc o).alloc o')) := Lib.hid fun o o' => ((Below.refl _ _).alloc (Nat.le_refl _) _).alloc (by simp) _
  obtain ⟨ty, fr, tq⟩ := x
  dsimp only at H1 H2 H3 HX ⊢
  generalize edB ⟨ty, fr, tq⟩ n = z at HX ⊢
  generalize idxB ty 100 = z1 at HX H1
  generalize idxB fr n = z2 at HX H2
  generalize idxB tq n = z3 at HX H3
  go_enter Tryd.func66, Tryd.ntmps66
  go_wp2_with fail
  refine (H1.out _).mono ?_
  rintro e w' ⟨rfl, rfl⟩
  cases z1
  · go_wp2_with fail
    go_ret
    exact ⟨ret_bool (by rw [HX.out]; rfl), HB.out _ _⟩
  · go_wp2_with fail
    refine (H2.out _).mono ?_
    rintro e w' ⟨rfl, rfl⟩
    cases z2
    · go_wp2_with fail
      go_ret
      exact ⟨ret_bool (by rw [HX.out]; rfl), HB.out _ _⟩
    · go_wp2_with fail
      refine (H3.out _).mono ?_
      rintro e w' ⟨rfl, rfl⟩
      go_wp2_with fail
      go_ret
      exact ⟨ret_bool (by rw [HX.out]; rfl), HB.out _ _⟩

set_option maxRecDepth 100000 in
set_option maxHeartbeats 2000000 in
theorem validP_any (g : Gr) (An : Option Addr) (cn : Nat) (Ae : Option Addr) (ce : Nat) (w : World) (hT : GrAt w An cn Ae ce g) :
    Calls Tryd.prog 45 #[gval An g.ns.length cn Ae g.es.length ce] w fun e w' => e = .returned (.int .i64 (validE g)) ∧ Below w.heap.size w w' := by
  have hn1 := hT.cn
  have he1 := hT.ce
  unfold maxLen at hn1 he1
  have HT := Lib.hid hT
  have HL := Lib.hid (fun h => valid_long (g := g) h)
  have HN := Lib.hid (fun h1 h2 i hi h => valid_node (g := g) h1 h2 (i := i) hi h)
  have HE := Lib.hid (fun h1 h2 i hi h => valid_edge (g := g) h1 h2 (i := i) hi h)
  have HO := Lib.hid (fun h1 h2 h3 h4 => valid_ok (g := g) h1 h2 h3 h4)
  clear hT
  generalize validE g = R at HL HN HE HO ⊢
  by_cases h40 : 40 < g.ns.length
  · have HR := Lib.hid (HL.out (.inl h40))
    have t1 : decide (40 < (g.ns.length : Int)) = true := decide_eq_true (by omega)
    go_enter Tryd.func45, Tryd.ntmps45
    go_wp2_with fail
    go_ret
    exact ⟨ret_int (by rw [HR.out]; rfl), (Below.refl _ _).alloc (Nat.le_refl _) _⟩
  by_cases h80 : 80 < g.es.length
  · have HR := Lib.hid (HL.out (.inr h80))
    have t1 : decide (40 < (g.ns.length : Int)) = false := decide_eq_false (by omega)
    have t2 : decide (80 < (g.es.length : Int)) = true := decide_eq_true (by omega)
    go_enter Tryd.func45, Tryd.ntmps45
    go_wp2_with fail
    go_ret
    exact ⟨ret_int (by rw [HR.out]; rfl), (Below.refl _ _).alloc (Nat.le_refl _) _⟩
  have n40 : g.ns.length ≤ 40 := by omega
  have n80 : g.es.length ≤ 80 := by omega
  have HN' := Lib.hid (HN.out n40 n80)
  have HE' := Lib.hid (HE.out n40 n80)
  have HO' := Lib.hid (HO.out n40 n80)
  clear HL HN HE HO
  have t1 : decide (40 < (g.ns.length : Int)) = false := decide_eq_false (by omega)
  have t2 : decide (80 < (g.es.length : Int)) = false := decide_eq_false (by omega)
  clear h40 h80
  go_enter Tryd.func45, Tryd.ntmps45
  go_wp2_with fail
  clear t1 t2
  go_loop [20] (fun i => ∃ k : Nat, k ≤ g.ns.length ∧ i = .int .i64 k ∧ ∀ j, j < k → idxB (g.ns.getD j 0) 100 = true) (fun i => g.ns.length - (intOf i).toNat)
  case atStart => exact ⟨0, Nat.zero_le _, rfl, fun j hj => by omega⟩
  case round =>
    obtain ⟨k, hk, rfl, hok⟩ := hrel
    have HK := Lib.hid hok
    clear hok
    by_cases hlt : k < g.ns.length
    · obtain ⟨b, off, rfl, hb, hc⟩ := Ints.cells HT.out.ns hlt
      have ck := hc k hlt
      have HC : Hid (∀ u, Calls Tryd.prog 65 #[.int .i64 (g.ns.getD k 0), .int .i64 100] u fun e w' => e = .returned (.bool (idxB (g.ns.getD k 0) 100)) ∧ u = w') := Lib.hid fun u => isIndex_any _ 100 u
      clear hc
      by_cases h1 : idxB (g.ns.getD k 0) 100 = true
      · have HK2 : Hid (∀ j, j < k + 1 → idxB (g.ns.getD j 0) 100 = true) := Lib.hid fun j hj => by
          by_cases e : j = k
          · subst e; exact h1
          · exact HK.out j (by omega)
        rw [h1] at HC
        clear h1
        generalize g.ns.getD k 0 = x at ck HC
        go_wp2_with fail
        refine (HC.out _).mono ?_
        rintro e w' ⟨rfl, rfl⟩
        go_wp2_with fail
        go_round
        case rel => exact ⟨k + 1, by omega, by go_num, HK2.out⟩
        case measure => simp [intOf]; omega
      · have h1' : idxB (g.ns.getD k 0) 100 = false := by simpa using h1
        have HR := Lib.hid (HN'.out k hlt h1')
        rw [h1'] at HC
        clear h1 h1'
        generalize g.ns.getD k 0 = x at ck HC
        go_wp2_with fail
        refine (HC.out _).mono ?_
        rintro e w' ⟨rfl, rfl⟩
        go_wp2_with fail
        go_ret
        exact ⟨ret_int (by rw [HR.out]; rfl), (Below.refl _ _).alloc (Nat.le_refl _) _⟩
    · have HO2 := Lib.hid (HO'.out fun i hi => HK.out i (by omega))
      clear HO' HK
      go_wp2_with fail
      go_loopw [31] (fun i wr => ∃ k : Nat, k ≤ g.es.length ∧ i = .int .i64 k ∧ (∀ j, j < k → edB (g.es.getD j default) g.ns.length = true) ∧ Below (w.heap.size + 1) (w.alloc (.cells #[.slice An g.ns.length cn, .slice Ae g.es.length ce] 25 (0, 0))) wr) (fun i _ => g.es.length - (intOf i).toNat)
      case atStart => exact ⟨0, Nat.zero_le _, rfl, fun j hj => by omega, Below.refl _ _⟩
      case round =>
        obtain ⟨k, hk, rfl, hok, hbel⟩ := hrel
        obtain ⟨c0, c1⟩ := box_cell hbel
        have hsz : w.heap.size + 1 ≤ wr.heap.size := by have := hbel.size; simpa using this
        have hs0 : w.heap.size < wr.heap.size := by omega
        have HB := Lib.hid hbel
        have HK := Lib.hid hok
        clear hok hbel
        by_cases hlt : k < g.es.length
        · obtain ⟨b, off, rfl, hb, hc⟩ := Eds.cells (HT.out.es.below (box_below HB.out)) hlt
          obtain ⟨k0, k1, k2⟩ := hc k hlt
          have HC := Lib.hid (fun u => isEdge_any (g.es.getD k default) An g.ns.length cn (some ⟨b, off, none⟩) g.es.length ce u)
          have hbw : b < wr.heap.size := by omega
          clear hc
          by_cases h1 : edB (g.es.getD k default) g.ns.length = true
          · have HK2 : Hid (∀ j, j < k + 1 → edB (g.es.getD j default) g.ns.length = true) := Lib.hid fun j hj => by
              by_cases e : j = k
              · subst e; exact h1
              · exact HK.out j (by omega)
            rw [h1] at HC
            clear h1
            generalize g.es.getD k default = x at k0 k1 k2 HC
            go_wp2_with fail
            refine (HC.out _).mono ?_
            rintro e w2 ⟨rfl, hb2⟩
            have HB2 := Lib.hid ((HB.out.alloc hsz _).trans (hb2.mono (by simp; omega)))
            clear hb2
            go_wp2_with fail
            go_roundw
            case rel => exact ⟨k + 1, by omega, by go_num, HK2.out, HB2.out⟩
            case measure => simp [intOf]; omega
          · have h1' : edB (g.es.getD k default) g.ns.length = false := by simpa using h1
            have HR := Lib.hid (HE'.out k hlt h1')
            rw [h1'] at HC
            clear h1 h1'
            generalize g.es.getD k default = x at k0 k1 k2 HC
            go_wp2_with fail
            refine (HC.out _).mono ?_
            rintro e w2 ⟨rfl, hb2⟩
            have HB2 := Lib.hid ((HB.out.alloc hsz _).trans (hb2.mono (by simp; omega)))
            clear hb2
            go_wp2_with fail
            go_ret
            exact ⟨ret_int (by rw [HR.out]; rfl), box_below HB2.out⟩
        · have HR := Lib.hid (HO2.out fun i hi => HK.out i (by omega))
          go_wp2_with fail
          go_ret
          exact ⟨ret_int (by rw [HR.out]; rfl), box_below HB.out⟩

end Go.Proofs.YtaeelanbkdkppaaDoor

/-
  DERIVED: THE SHELF's CONTRACTS AT THIS DUMP, IN PLAIN WORDS (tools/lay-plain.mjs out of 'TrydShelf.lean', which tools/lay-shelf.mjs wrote): THE SAME DECLARATIONS UNDER THE SAME NAMES: 'import', 'namespace', 'open', 'def', 'theorem' AND NOTHING ELSE: no command of the shelf's: FOR A HAND-IN. Each laying: the table of numbers ('.._ren') and one theorem, a field a fact of the dump's own or the kernel's comparison; each contract: ONE APPLICATION.
-/
namespace Go.Proofs
open Go.Shelf
def Tryd.lays189_ren : Go.Shelf.Ren := ⟨fun | 189 => 75 | 125 => 90 | 257 => 89 | 128 => 110 | 129 => 111 | 294 => 101 | 295 => 102 | 296 => 103 | 297 => 104 | 298 => 105 | 299 => 106 | 216 => 107 | 300 => 108 | 301 => 109 | 328 => 115 | 329 => 116 | 330 => 117 | 331 => 118 | 332 => 119 | 215 => 120 | 343 => 122 | n => n, fun | 28 => 22 | 3 => 3 | 46 => 123 | 0 => 0 | 51 => 145 | 53 => 105 | 4 => 4 | 183 => 138 | 182 => 137 | 131 => 142 | 5 => 5 | 9 => 9 | 218 => 152 | 222 => 156 | 228 => 159 | 229 => 160 | n => n, fun | n => n⟩
theorem Tryd.lays189 : Go.Proofs.Lays.n189 Tryd.prog Tryd.lays189_ren := {
  mixed := by kernel_rfl
  f125 := Tryd.func90.trans (congrArg some (by kernel_rfl))
  f128 := Tryd.func110.trans (congrArg some (by kernel_rfl))
  f129 := Tryd.func111.trans (congrArg some (by kernel_rfl))
  f189 := Tryd.func75.trans (congrArg some (by kernel_rfl))
  f215 := Tryd.func120.trans (congrArg some (by kernel_rfl))
  f216 := Tryd.func107.trans (congrArg some (by kernel_rfl))
  f257 := Tryd.func89.trans (congrArg some (by kernel_rfl))
  f294 := Tryd.func101.trans (congrArg some (by kernel_rfl))
  f295 := Tryd.func102.trans (congrArg some (by kernel_rfl))
  f296 := Tryd.func103.trans (congrArg some (by kernel_rfl))
  f297 := Tryd.func104.trans (congrArg some (by kernel_rfl))
  f298 := Tryd.func105.trans (congrArg some (by kernel_rfl))
  f299 := Tryd.func106.trans (congrArg some (by kernel_rfl))
  f300 := Tryd.func108.trans (congrArg some (by kernel_rfl))
  f301 := Tryd.func109.trans (congrArg some (by kernel_rfl))
  f328 := Tryd.func115.trans (congrArg some (by kernel_rfl))
  f329 := Tryd.func116.trans (congrArg some (by kernel_rfl))
  f330 := Tryd.func117.trans (congrArg some (by kernel_rfl))
  f331 := Tryd.func118.trans (congrArg some (by kernel_rfl))
  f332 := Tryd.func119.trans (congrArg some (by kernel_rfl))
  f343 := Tryd.func122.trans (congrArg some (by kernel_rfl))
  t0 := Tryd.underlying0
  a0 := Tryd.isAgg0
  z0 := Tryd.sizeOf0
  v0 := Tryd.zeroValue0
  t3 := Tryd.underlying3
  a3 := Tryd.isAgg3
  z3 := Tryd.sizeOf3
  v3 := Tryd.zeroValue3
  t4 := Tryd.underlying4
  a4 := Tryd.isAgg4
  z4 := Tryd.sizeOf4
  v4 := Tryd.zeroValue4
  t5 := Tryd.underlying5
  a5 := Tryd.isAgg5
  z5 := Tryd.sizeOf5
  v5 := Tryd.zeroValue5
  t9 := Tryd.underlying9
  a9 := Tryd.isAgg9
  z9 := Tryd.sizeOf9
  v9 := Tryd.zeroValue9
  t28 := Tryd.underlying22
  a28 := Tryd.isAgg22
  z28 := Tryd.sizeOf22
  v28 := Tryd.zeroValue22
  t46 := Tryd.underlying123
  a46 := Tryd.isAgg123
  z46 := Tryd.sizeOf123
  v46 := Tryd.zeroValue123
  t51 := Tryd.underlying145
  a51 := Tryd.isAgg145
  z51 := Tryd.sizeOf145
  v51 := Tryd.zeroValue145
  t53 := Tryd.underlying105
  a53 := Tryd.isAgg105
  z53 := Tryd.sizeOf105
  v53 := Tryd.zeroValue105
  t131 := Tryd.underlying142
  a131 := Tryd.isAgg142
  z131 := Tryd.sizeOf142
  v131 := Tryd.zeroValue142
  t182 := Tryd.underlying137
  a182 := Tryd.isAgg137
  z182 := Tryd.sizeOf137
  v182 := Tryd.zeroValue137
  t183 := Tryd.underlying138
  a183 := Tryd.isAgg138
  z183 := Tryd.sizeOf138
  v183 := Tryd.zeroValue138
  t218 := Tryd.underlying152
  a218 := Tryd.isAgg152
  z218 := Tryd.sizeOf152
  v218 := Tryd.zeroValue152
  t222 := Tryd.underlying156
  a222 := Tryd.isAgg156
  z222 := Tryd.sizeOf156
  v222 := Tryd.zeroValue156
  t228 := Tryd.underlying159
  a228 := Tryd.isAgg159
  z228 := Tryd.sizeOf159
  v228 := Tryd.zeroValue159
  t229 := Tryd.underlying160
  a229 := Tryd.isAgg160
  z229 := Tryd.sizeOf160
  v229 := Tryd.zeroValue160 }
open Go.Sort Go.RowKit in
theorem Tryd.slices_Sort_int (blk off cap : Nat) (zs : List Int) (w : World) (hH : Holds (Value.int .i64) w blk off zs.toArray) (hblk : blk < w.heap.size) (hsz : zs.length < 4611686018427387904) :
    Calls Tryd.prog 75 #[.slice (some ⟨blk, off, none⟩) zs.length cap] w fun e w' =>
      e = .returned (.tuple #[]) ∧ ∃ n os, w' = grow (putRow (Value.int .i64) (Sort.ahead w n) blk off (zs.mergeSort fun x y => decide (x ≤ y)).toArray) os := Any.slices_Sort_int Tryd.lays189 blk off cap zs w hH hblk hsz
def Tryd.laysNm220_ren : Go.Shelf.Ren := ⟨fun | 20 => 62 | n => n, fun | 22 => 22 | 3 => 3 | 4 => 4 | 0 => 0 | n => n, fun | n => n⟩
theorem Tryd.laysNm220 : Go.Proofs.Lays2.n20 Tryd.prog Tryd.laysNm220_ren := {
  mixed := by kernel_rfl
  f20 := Tryd.func62.trans (congrArg some (by kernel_rfl))
  t0 := Tryd.underlying0
  a0 := Tryd.isAgg0
  z0 := Tryd.sizeOf0
  v0 := Tryd.zeroValue0
  t3 := Tryd.underlying3
  a3 := Tryd.isAgg3
  z3 := Tryd.sizeOf3
  v3 := Tryd.zeroValue3
  t4 := Tryd.underlying4
  a4 := Tryd.isAgg4
  z4 := Tryd.sizeOf4
  v4 := Tryd.zeroValue4
  t22 := Tryd.underlying22
  a22 := Tryd.isAgg22
  z22 := Tryd.sizeOf22
  v22 := Tryd.zeroValue22
  i3 := by kernel_rfl }
open Go.RowKit Go.Lib Go.Sort in
/-- slices.Compact at []int: "Compact replaces consecutive runs of equal elements with a single copy. This is like the uniq command found on Unix. Compact modifies the contents of the slice s and returns the modified slice, which may have a smaller length. Compact zeroes the elements between the new length and the original length. The result preserves the nilness of s.": IT RETURNS THE SLICE CUT TO 'Lib.compact zs'; ITS CELLS HOLD 'Lib.compact zs', THEN ZERO VALUES up tq the old length; all else is as it was, but for the count of draws. IN THE WORDS OF slices.Sort's CONTRACT ('Holds', 'putRow'): so the everyday 'slices.Sort(xs); xs = slices.Compact(xs)' goes from the one contract tq the other. It asks 'zs.length ≤ cap' (every slice's: the reslicing 's[:k]' looks at it). Length 0, nil: '.._empty'. (LAID: no walk: one application.) -/
theorem Tryd.slices_Compact_int (blk off cap : Nat) (zs : List Int) (w : World) (hH : Holds (Value.int .i64) w blk off zs.toArray) (hsz : zs.length ≤ 9223372036854775807) (hcap : zs.length ≤ cap) :
    Calls Tryd.prog 62 #[.slice (some ⟨blk, off, none⟩) zs.length cap] w fun e w' => e = .returned (.slice (some ⟨blk, off, none⟩) (Lib.compact zs).length cap) ∧ ∃ q, w' = putRow (Value.int .i64) (Sort.ahead w q) blk off (Lib.compact zs ++ List.replicate (zs.length - (Lib.compact zs).length) 0).toArray := Any.slices_Compact_int Tryd.laysNm220 blk off cap zs w hH hsz hcap
open Go.RowKit Go.Lib Go.Sort in
/-- The same at a slice of length 0, a nil one too: it comes back as it is. (LAID: no walk: one application.) -/
theorem Tryd.slices_Compact_int_empty (a : Option Addr) (cap : Nat) (w : World) :
    Calls Tryd.prog 62 #[.slice a 0 cap] w fun e w' => e = .returned (.slice a 0 cap) ∧ w' = w := Any.slices_Compact_int_empty Tryd.laysNm220 a cap w
open Go.RowKit Go.Sort in
/-- .. and plain. (LAID: no walk: one application.) -/
theorem Tryd.slices_Sort_int_none (p : Option Addr) (cap : Nat) (w : World) :
    Calls Tryd.prog 75 #[.slice p 0 cap] w fun e w' => e = .returned (.tuple #[]) ∧ w' = w := Any.slices_Sort_int_none Tryd.lays189 p cap w
end Go.Proofs

/-
  Graphs: Same of the program and the reference, same of the law, Few, Copied, slices.Clip, Contains, BinarySearch.
-/
namespace Go.Proofs.YtaeelanbkdkppaaDoor
open Go.RowKit

theorem mo_eq (a b : Mo) : decide (a = b) = (decide (a.ns = b.ns) && decide (a.es = b.es)) := by
  cases a; cases b
  simp only [Mo.mk.injEq, Bool.decide_and]

end Go.Proofs.YtaeelanbkdkppaaDoor

/-
  Graphs: append tq an empty literal; what regions that make memory keep; slices.Clip; moveEnds; Copied.
-/
namespace Go.Proofs.YtaeelanbkdkppaaDoor
open Go.RowKit

/-- a slice of the call's own, or an empty literal -/
def OwnZ {α : Type} (E : El α) (t : TypeId) (w : World) (base : Nat) (v : Value) (xs : List α) : Prop := OwnE E t w base v xs ∨ (xs = [] ∧ ∃ a, v = .slice (some a) 0 0)
section
variable {α : Type} {E : El α} {t : TypeId} {w w' : World} {base : Nat} {v : Value} {xs : List α}
theorem OwnZ.reads_cap (h : OwnZ E t w base v xs) : ∃ A c, v = .slice A xs.length c ∧ Reads E w w.heap.size A xs ∧ xs.length ≤ c ∧ c ≤ maxLen := by
  rcases h with h | ⟨rfl, a, rfl⟩
  · exact OwnE.reads_cap h
  · exact ⟨some a, 0, rfl, .inl rfl, Nat.le_refl _, by unfold maxLen; omega⟩
theorem OwnZ.slice (h : OwnZ E t w base v xs) : ∃ ao cap, v = .slice ao xs.length cap := by
  obtain ⟨A, c, e, _⟩ := h.reads_cap
  exact ⟨A, c, e⟩
theorem OwnZ.below {B : Nat} (h : OwnZ E t w base v xs) (hb : Below B w w') (hB : w.heap.size ≤ B) : OwnZ E t w' base v xs := h.imp (fun h => OwnE.below h hb hB) id
theorem OwnZ.stored {a : Addr} (h : OwnZ E t w base v xs) (ha : a.block < base) (u : Value) : OwnZ E t (w.setCell a u) base v xs := h.imp (fun h => ownsRow_setCell_below h ha u) id
theorem OwnZ.mono {base' : Nat} (h : OwnZ E t w base v xs) (hb : base' ≤ base) : OwnZ E t w base' v xs := h.imp (fun h => OwnE.mono h hb) id
theorem OwnZ.cast {ys : List α} (e : xs = ys) (h : OwnZ E t w base v xs) : OwnZ E t w base v ys := e ▸ h

theorem run_append_lit {P : Program} {w : World} (t ty e : TypeId) (i : TypeInfo) (g : Addr) (c : Nat) (ad : Option Addr) (ht : P.underlying t = some (.slice e)) (hi : P.info? e = some i) :
    (Builtin.append_ #[t, t] ty #[.slice (some g) 0 0, .slice ad 0 c]).run P w = .ok (.slice (some g) 0 0) w := by
  cases ad <;> simp [Builtin.append_, run_underlying ht, sizeOf, typeInfo, hi, Builtin.lenOf, Builtin.firstCells, storeCells, loadCells, loadCellsFrom]
end

section
variable {α : Type} {E : El α}
theorem wp_append_lit {w : World} {o : Oper} {a : Act} {K : Act → World → Prop} {Q : Exit → Act → World → Prop} (s x : Operand) (T t : TypeId)
    (ho : o.op = .call { callee := .builtin .append, args := #[s, x], argTypes := #[T, T] }) {z : Value} {bytes : Nat}
    (hT : Tryd.prog.underlying T = some (.slice t)) (hinfo : (Tryd.prog.info? t).map (fun i => (i.zero, i.size, i.bytes)) = some (some z, E.size, bytes)) (hzc : z.cells.size = E.size) (hpos : 0 < E.size) (hby : bytes ≤ 1000)
    (g : Addr) (hs : a.eval s = .slice (some g) 0 0) (A : Option Addr) (m c B : Nat) (ys : List α) (hx : a.eval x = .slice A m c) (hm : m = ys.length) (hR : Reads E w B A ys) (hl2 : m ≤ 100000)
    (hK : ∀ v' w', OwnZ E t w' w.heap.size v' ys → w.grownBy w' none → K (a.put o.dst v') w') : o.wp Tryd.prog a w K Q := by
  obtain ⟨i0, hi, hz0, hz1, hz2⟩ := info_parts hinfo
  subst hm
  have lit : ∀ ad, a.eval x = .slice ad 0 c → ys = [] → o.wp Tryd.prog a w K Q := fun ad hx hy => by
    have hr := run_append_lit (P := Tryd.prog) (w := w) T o.type t i0 g c ad hT hi
    unfold Oper.wp execOp
    simp only [ho, resolve, invoke, builtin, Sem.run_bind, Sem.run_pure, Result.andThen_ok, List.map_toArray, List.map_cons, List.map_nil, hs, hx, hr]
    exact hK _ w (.inr ⟨hy, g, rfl⟩) (grown_refl w _)
  rcases Nat.eq_zero_or_pos ys.length with h0 | hp
  · rw [h0] at hx
    exact lit _ hx (List.eq_nil_of_length_eq_zero h0)
  · rcases hR with h | ⟨b, off, rfl, _, h3⟩
    · rw [h] at hp; simp at hp
    · have hb : ys.length * bytes ≤ 100000 * 1000 := Nat.mul_le_mul (by omega) hby
      obtain ⟨v', w', hrun, r1, r2⟩ := run_append_arg_grows (P := Tryd.prog) w T o.type t i0 z E.size bytes hT hi hz0 hz1 hz2 hzc hpos g 0 0 [] (by simp) (fun j u h => by simp at h) ⟨b, off, none⟩ ys.length c (cellsE E ys) (cellsE_length E ys) (by
          intro j u hj
          obtain ⟨hj1, _⟩ := List.getElem?_eq_some_iff.1 hj
          rw [cellsE_length] at hj1
          have hi2 : j / E.size < ys.length := (Nat.div_lt_iff_lt_mul hpos).2 hj1
          have hq := List.getElem?_eq_getElem hi2
          have hlt : j % E.size < (E.enc ys[j / E.size]).length := by rw [E.len]; exact Nat.mod_lt _ hpos
          have hu := cellsE_get E hq (List.getElem?_eq_getElem hlt)
          have ej : j / E.size * E.size + j % E.size = j := by rw [Nat.mul_comm]; exact Nat.div_add_mod j E.size
          rw [ej, hj] at hu
          have := h3 _ _ hq _ _ (List.getElem?_eq_getElem hlt)
          rw [addr_plain, show off + j = off + j / E.size * E.size + j % E.size by rw [Nat.add_assoc, ej], this, hu]) (by omega) (by unfold maxLen; omega) (by rw [Nat.zero_add]; omega)
      unfold Oper.wp execOp
      simp only [ho, resolve, invoke, builtin, Sem.run_bind, Sem.run_pure, Result.andThen_ok, List.map_toArray, List.map_cons, List.map_nil, hs, hx, hrun]
      refine hK v' w' (.inl ?_) r2
      unfold OwnE
      rw [Nat.zero_add, List.nil_append] at r1
      exact r1
/-- w' is w with more memory; what may have changed is of type t, from base on -/
def Grow (t : TypeId) (base : Nat) (w w' : World) : Prop := Below base w w' ∧ ∀ (i : Nat) (cs : Array Value) (t' : TypeId), t' ≠ t → w.heap[i]? = some (.cells cs t' (0, 0)) → w'.heap[i]? = some (.cells cs t' (0, 0))
theorem Grow.own {t : TypeId} {base : Nat} {w w' : World} {v : Value} {xs : List α} (hown : OwnE E t w base v xs) (hg : w.grownBy w' v.ownBlock) (hb : Below base w w') : Grow t base w w' :=
  ⟨hb, fun i _ _ ht h => (hg.block i (Array.getElem?_eq_some_iff.1 h).1 (fun e => own_far hown h (fun e2 => ht e2.symm) e.symm)).trans h⟩
theorem Grow.of {t : TypeId} {base : Nat} {w w' : World} (hb : Below w.heap.size w w') (hB : base ≤ w.heap.size) : Grow t base w w' := ⟨hb.mono hB, fun i _ _ _ h => (hb.block i (Array.getElem?_eq_some_iff.1 h).1).trans h⟩
theorem Grow.trans {t : TypeId} {base : Nat} {a b c : World} (h : Grow t base a b) (k : Grow t base b c) : Grow t base a c := ⟨h.1.trans k.1, fun i cs t' ht hh => k.2 i cs t' ht (h.2 i cs t' ht hh)⟩
theorem Grow.refl (t : TypeId) (base : Nat) (w : World) : Grow t base w w := ⟨Below.refl _ _, fun _ _ _ _ h => h⟩
theorem Grow.row {β : Type} {G : El β} {t t' : TypeId} {base b2 : Nat} {w w' : World} {v : Value} {xs : List β} (hg : Grow t base w w') (ht : t' ≠ t) (h : OwnE G t' w b2 v xs) : OwnE G t' w' b2 v xs := by
  refine ⟨h.1, ?_⟩
  rcases h.2 with hn | ⟨g, cap, cur, hv, hbg, hh, rest⟩
  · exact .inl hn
  · exact .inr ⟨g, cap, cur, hv, hbg, hg.2 g _ _ ht hh, rest⟩
theorem Grow.rowZ {β : Type} {G : El β} {t t' : TypeId} {base b2 : Nat} {w w' : World} {v : Value} {xs : List β} (hg : Grow t base w w') (ht : t' ≠ t) (h : OwnZ G t' w b2 v xs) : OwnZ G t' w' b2 v xs := h.imp (hg.row ht) id
theorem wp_append_Z {w : World} {o : Oper} {a : Act} {K : Act → World → Prop} {Q : Exit → Act → World → Prop} (s x : Operand) (T t : TypeId)
    (ho : o.op = .call { callee := .builtin .append, args := #[s, x], argTypes := #[T, T] }) {z : Value} {bytes : Nat}
    (hT : Tryd.prog.underlying T = some (.slice t)) (hinfo : (Tryd.prog.info? t).map (fun i => (i.zero, i.size, i.bytes)) = some (some z, E.size, bytes)) (hzc : z.cells.size = E.size) (hpos : 0 < E.size) (hby : bytes ≤ 1000)
    (base : Nat) (v : Value) (xs : List α) (hs : a.eval s = v) (hown : OwnZ E t w base v xs) (A : Option Addr) (m c B : Nat) (ys : List α) (hx : a.eval x = .slice A m c) (hm : m = ys.length) (hR : Reads E w B A ys) (hl : xs.length ≤ 100000) (hl2 : m ≤ 100000) (hbase : base ≤ w.heap.size)
    (hK : ∀ v' w', OwnZ E t w' base v' (xs ++ ys) → Grow t base w w' → K (a.put o.dst v') w') : o.wp Tryd.prog a w K Q := by
  rcases hown with hown | ⟨rfl, g, rfl⟩
  · exact wp_append_many s x T t ho hT hinfo hzc hpos hby base v xs hs hown A m c B ys hx hm hR hl hl2 hbase fun v' w' h2 h3 h4 _ => hK v' w' (.inl h2) (Grow.own hown h3 h4)
  · exact wp_append_lit s x T t ho hT hinfo hzc hpos hby g hs A m c B ys hx hm hR hl2 fun v' w' h2 h3 => hK v' w' (by rw [List.nil_append]; exact h2.mono hbase) (Grow.of ((Below.refl _ w).grown h3 (Nat.le_refl _) (by intro k hk; cases hk)) hbase)
theorem wpList_append_Z {w : World} {ops : Array Oper} {rest : List Oper} {o : Oper} {a : Act} {Q : Exit → Act → World → Prop} (hgd : o.guard = none) (s x : Operand) (T t : TypeId)
    (ho : o.op = .call { callee := .builtin .append, args := #[s, x], argTypes := #[T, T] }) {z : Value} {bytes : Nat}
    (hT : Tryd.prog.underlying T = some (.slice t)) (hinfo : (Tryd.prog.info? t).map (fun i => (i.zero, i.size, i.bytes)) = some (some z, E.size, bytes)) (hzc : z.cells.size = E.size) (hpos : 0 < E.size) (hby : bytes ≤ 1000)
    (base : Nat) (v : Value) (xs : List α) (hs : a.eval s = v) (hown : OwnZ E t w base v xs) (A : Option Addr) (m c B : Nat) (ys : List α) (hx : a.eval x = .slice A m c) (hm : m = ys.length) (hR : Reads E w B A ys) (hl : xs.length ≤ 100000) (hl2 : m ≤ 100000) (hbase : base ≤ w.heap.size)
    (hK : ∀ v' w', OwnZ E t w' base v' (xs ++ ys) → Grow t base w w' → wpList Tryd.prog ops Q rest (a.put o.dst v') w') : wpList Tryd.prog ops Q (o :: rest) a w :=
  wpList_plain hgd fun _ hK2 => wp_append_Z s x T t ho hT hinfo hzc hpos hby base v xs hs hown A m c B ys hx hm hR hl hl2 hbase fun v' w' h2 h3 => hK2 _ _ (hK v' w' h2 h3)
theorem step_append_lit {w : World} {ops : Array Oper} {o : Oper} {a : Act} {K : Act → World → Prop} {Q : Exit → Act → World → Prop} {X : Prop} (hgd : o.guard = none) (s x : Operand) (T t : TypeId)
    (ho : o.op = .call { callee := .builtin .append, args := #[s, x], argTypes := #[T, T] }) {z : Value} {bytes : Nat}
    (hT : Tryd.prog.underlying T = some (.slice t)) (hinfo : (Tryd.prog.info? t).map (fun i => (i.zero, i.size, i.bytes)) = some (some z, E.size, bytes)) (hzc : z.cells.size = E.size) (hpos : 0 < E.size) (hby : bytes ≤ 1000)
    (g : Addr) (hs : a.eval s = .slice (some g) 0 0) (A : Option Addr) (m c B : Nat) (ys : List α) (hx : a.eval x = .slice A m c) (hm : m = ys.length) (hR : Reads E w B A ys) (hl2 : m ≤ 100000)
    (hK : ∀ v' w', OwnZ E t w' w.heap.size v' ys → w.grownBy w' none → K (a.put o.dst v') w') : if Region.wanted o (yielded ops a.tmps) = true then Oper.wp Tryd.prog o a w K Q else X := by
  have hw : Region.wanted o (yielded ops a.tmps) = true := by simp [Region.wanted, hgd]
  rw [if_pos hw]
  exact wp_append_lit s x T t ho hT hinfo hzc hpos hby g hs A m c B ys hx hm hR hl2 hK
end

/-! slices.Clip -/
/-! moveEnds -/
/-! what regions keep -/
theorem below_a (u : World) (o : Obj) : Below u.heap.size u (u.alloc o) := (Below.refl _ _).alloc (Nat.le_refl _) o
theorem below_ad (u : World) (o : Obj) : Below u.heap.size u (u.alloc o).drew := Below.drew (below_a u o)
theorem below_d (u : World) : Below u.heap.size u u.drew := Below.drew (Below.refl _ _)
theorem below_g {u x : World} (hg : u.grownBy x none) : Below u.heap.size u x := (Below.refl _ u).grown hg (Nat.le_refl _) (by intro k hk; cases hk)
/-- the value in a cell -/
def valAt (W : World) (h j : Nat) : Value := (W.cell? ⟨h, j, none⟩).getD (.bool false)
/-- a variable of two cells -/
def Blk (h : Nat) (t : TypeId) (W : World) : Prop := ∃ x y, W.heap[h]? = some (.cells #[x, y] t (0, 0))
abbrev Sto (h : Nat) (W : World) : Prop := (W.cell? ⟨h, 0, none⟩ = some (valAt W h 0) ∧ W.cell? ⟨h, 1, none⟩ = some (valAt W h 1)) ∧ (W.frozen? ⟨h, 0, none⟩ = false ∧ W.frozen? ⟨h, 1, none⟩ = false)
theorem Blk.sto {h : Nat} {t : TypeId} {W : World} (hb : Blk h t W) : Sto h W := by
  obtain ⟨x, y, hh⟩ := hb
  obtain ⟨c0, c1⟩ := cell2 hh
  refine ⟨⟨?_, ?_⟩, frozen_of_row _ _ _ _ _ hh, frozen_of_row _ _ _ _ _ hh⟩
  · unfold valAt; rw [c0]; rfl
  · unfold valAt; rw [c1]; rfl
theorem Blk.up {h : Nat} {t : TypeId} {W W' : World} (hb : Blk h t W) (hu : Below W.heap.size W W') : Blk h t W' := by
  obtain ⟨x, y, hh⟩ := hb
  exact ⟨x, y, heap_up hu hh⟩
theorem store2 {W : World} {h : Nat} {t : TypeId} (hb : Blk h t W) (a b : Value) : ((W.setCell ⟨h, 0, none⟩ a).setCell ⟨h, 1, none⟩ b).heap[h]? = some (.cells #[a, b] t (0, 0)) := by
  obtain ⟨x, y, hh⟩ := hb
  exact heap_setCell_same _ h 1 _ _ b (heap_setCell_same W h 0 _ _ a hh)
theorem Blk.store {h : Nat} {t : TypeId} {W : World} (hb : Blk h t W) (a b : Value) : Blk h t ((W.setCell ⟨h, 0, none⟩ a).setCell ⟨h, 1, none⟩ b) := ⟨a, b, store2 hb a b⟩
/-- a box that is read, a variable that is written -/
abbrev One (g : Nat) (u v : Value) (h : Nat) (t : TypeId) (wz W : World) : Prop :=
  (W.cell? ⟨g, 0, none⟩ = some u ∧ W.cell? ⟨g, 1, none⟩ = some v) ∧ Sto h W ∧ Blk h t W ∧ Below (g + 1) wz W ∧ g + 1 ≤ W.heap.size
theorem one_of {g h : Nat} {u v : Value} {t t' : TypeId} {wz W : World} (h1 : wz.heap[g]? = some (.cells #[u, v] t' (0, 0))) (h2 : Blk h t W) (hb : Below (g + 1) wz W) (hs : g + 1 ≤ W.heap.size) : One g u v h t wz W :=
  ⟨cell2 ((hb.block g (Nat.lt_succ_self _)).trans h1), h2.sto, h2, hb, hs⟩
theorem One.up {g h : Nat} {u v : Value} {t t' : TypeId} {wz W W' : World} (h1 : wz.heap[g]? = some (.cells #[u, v] t' (0, 0))) (ho : One g u v h t wz W) (hb : Below W.heap.size W W') : One g u v h t wz W' :=
  one_of h1 (ho.2.2.1.up hb) (ho.2.2.2.1.trans (hb.mono ho.2.2.2.2)) (Nat.le_trans ho.2.2.2.2 hb.size)
theorem One.store {g h : Nat} {u v : Value} {t t' : TypeId} {wz W : World} (h1 : wz.heap[g]? = some (.cells #[u, v] t' (0, 0))) (hgh : g < h) (ho : One g u v h t wz W) (a b : Value) : One g u v h t wz ((W.setCell ⟨h, 0, none⟩ a).setCell ⟨h, 1, none⟩ b) :=
  one_of h1 (ho.2.2.1.store a b) ((ho.2.2.2.1.setCell (p := ⟨h, 0, none⟩) hgh a).setCell (p := ⟨h, 1, none⟩) hgh b) (by simpa using ho.2.2.2.2)

/-! Copied -/
set_option maxRecDepth 100000 in
set_option maxHeartbeats 4000000 in
theorem copied_any (g : Gr) (An : Option Addr) (cn : Nat) (Ae : Option Addr) (ce : Nat) (w : World) (hf : g.ns.length ≤ 1000 ∧ g.es.length ≤ 1000) (hT : GrAt w An cn Ae ce g) :
    Calls Tryd.prog 37 #[gval An g.ns.length cn Ae g.es.length ce] w fun e w' => (∃ v u, e = .returned (.agg #[v, u]) ∧ OwnZ EInt 3 w' w.heap.size v g.ns ∧ OwnZ EEd 65 w' w.heap.size u g.es) ∧ Below w.heap.size w w' := by
  obtain ⟨wz, hwz⟩ : ∃ wz, wz = (w.alloc (.cells #[.slice An g.ns.length cn, .slice Ae g.es.length ce] 25 (0, 0))).alloc (.cells #[.slice none 0 0, .slice none 0 0] 25 (0, 0)) := ⟨_, rfl⟩
  have hb0 : Below w.heap.size w wz := by rw [hwz]; exact ((Below.refl _ _).alloc (Nat.le_refl _) _).alloc (by simp) _
  have hh1 : wz.heap[w.heap.size]? = some (.cells #[.slice An g.ns.length cn, .slice Ae g.es.length ce] 25 (0, 0)) := by rw [hwz]; exact heap_two _ _ _
  have hh2 : Blk (w.heap.size + 1) 25 wz := ⟨_, _, by rw [hwz]; exact heap_two' _ _ _⟩
  have hzs : wz.heap.size = w.heap.size + 2 := by rw [hwz]; simp
  have hs1 : One w.heap.size (.slice An g.ns.length cn) (.slice Ae g.es.length ce) (w.heap.size + 1) 25 wz wz := one_of hh1 hh2 (Below.refl _ _) (by omega)
  have HU := Lib.hid (fun W W' h hb => One.up (h := w.heap.size + 1) (t := 25) (W := W) (W' := W') hh1 h hb)
  have HST := Lib.hid (fun W h a b => One.store (t := 25) (W := W) hh1 (Nat.lt_succ_self w.heap.size) h a b)
  have HBW : Hid (∀ W, One w.heap.size (.slice An g.ns.length cn) (.slice Ae g.es.length ce) (w.heap.size + 1) 25 wz W → Below w.heap.size w W) := Lib.hid fun W h => hb0.trans (h.2.2.2.1.mono (Nat.le_succ _))
  have HBZ : Hid (∀ W, One w.heap.size (.slice An g.ns.length cn) (.slice Ae g.es.length ce) (w.heap.size + 1) 25 wz W → w.heap.size + 2 ≤ W.heap.size) := Lib.hid fun W h => heap_lt h.2.2.1.choose_spec.choose_spec
  have HN := Lib.hid (fun W h => Reads.below hT.ns (HBW.out W h))
  have HE := Lib.hid (fun W h => Reads.below hT.es (HBW.out W h))
  have HS1 := Lib.hid hs1
  obtain ⟨l1, l2⟩ := hf
  have HZ := Lib.hid hzs
  clear hb0 hh1 hh2 hT hzs hs1
  go_enter Tryd.func37, Tryd.ntmps37
  go_wp2_with fail
  rw [← hwz]
  clear hwz
  go_region_held3 (One w.heap.size (.slice An g.ns.length cn) (.slice Ae g.es.length ce) (w.heap.size + 1) 25 wz)
    (first | assumption | exact HS1.out | exact HU.out _ _ (by first | assumption | exact HS1.out) (by first | exact below_a _ _ | exact below_ad _ _ | exact below_d _ | exact below_g (by assumption)) | exact HST.out _ (by assumption) _ _)
    ((first
      | (refine step_append_lit (E := EInt) (by rfl) _ _ 22 3 (by rfl) Tryd.underlying22 infoInt rfl (by decide) (by decide) _ (by rfl) An g.ns.length cn w.heap.size g.ns (by rfl) rfl (HN.out _ (by assumption)) (by omega) ?_; intro v1 w1 ho1 hg1; have hq1 := HU.out _ _ (by first | assumption | exact HS1.out) (below_g hg1); obtain ⟨ao1, cap1, rfl⟩ := ho1.slice)
      | (refine step_append_lit (E := EEd) (by rfl) _ _ 23 65 (by rfl) Tryd.underlying23 infoEd rfl (by decide) (by decide) _ (by rfl) Ae g.es.length ce w.heap.size g.es (by rfl) rfl (HE.out _ (by assumption)) (by omega) ?_; intro v2 w2 ho2 hg2; have hq2 := HU.out _ _ (by first | assumption | exact HS1.out) (below_g hg2); obtain ⟨ao2, cap2, rfl⟩ := ho2.slice)))
  all_goals
    have hb12 : Below w1.heap.size w1 w2 := by
      first
        | exact below_g hg2
        | exact (below_a _ _).trans ((below_g hg2).mono (by simp))
        | exact (below_ad _ _).trans ((below_g hg2).mono (by simp))
    have hs1 := (HBZ.out _ hq1)
    have hz := HZ.out
    have HO1 := Lib.hid ((ho1.below hb12 (Nat.le_refl _)).mono (base' := w.heap.size + 2) (by first | (simp; omega) | omega))
    have HO2 := Lib.hid (ho2.mono (base' := w.heap.size + 2) (by first | (simp; omega) | omega))
    have hh := store2 hq2.2.2.1 (.slice ao1 g.ns.length cap1) (.slice ao2 g.es.length cap2)
    obtain ⟨r0, r1⟩ := cell2 hh
    have HBF := Lib.hid (HBW.out _ hq2)
    clear hb12 hs1 hz hh ho1 ho2 hg1 hg2 hq1 hq2
    go_wp2_with fail
    refine bodyPost_ret (v := gval ao1 g.ns.length cap1 ao2 g.es.length cap2) (by simp [results, Tryd.results37, go_sem, r0, r1]) rfl ?_
    exact ⟨⟨_, _, rfl, ((HO1.out.stored (by simp) _).stored (by simp) _).mono (by omega), ((HO2.out.stored (by simp) _).stored (by simp) _).mono (by omega)⟩, (HBF.out.setCell (by simp) _).setCell (by simp) _⟩

end Go.Proofs.YtaeelanbkdkppaaDoor

/-
  Graphs: a function's box and its result variable; append tq a clipped slice.
-/
namespace Go.Proofs.YtaeelanbkdkppaaDoor
open Go.RowKit

/-- block g is a box of two cells -/
def BoxIs (g : Nat) (u v : Value) (t : TypeId) (W : World) : Prop := W.heap[g]? = some (.cells #[u, v] t (0, 0))
theorem BoxIs.up {g : Nat} {u v : Value} {t : TypeId} {W W' : World} (h : BoxIs g u v t W) (hb : Below W.heap.size W W') : BoxIs g u v t W' := heap_up hb h
theorem BoxIs.cells {g : Nat} {u v : Value} {t : TypeId} {W : World} (h : BoxIs g u v t W) : W.cell? ⟨g, 0, none⟩ = some u ∧ W.cell? ⟨g, 1, none⟩ = some v := cell2 h
theorem BoxIs.set {g : Nat} {u v : Value} {t : TypeId} {W : World} (h : BoxIs g u v t W) {p : Addr} (hp : p.block ≠ g) (x : Value) : BoxIs g u v t (W.setCell p x) := (Below.heap_setCell W p x g (fun e => hp e.symm)).trans h
theorem Blk.set {g : Nat} {t : TypeId} {W : World} (h : Blk g t W) {p : Addr} (hp : p.block ≠ g) (x : Value) : Blk g t (W.setCell p x) := by
  obtain ⟨a, b, hh⟩ := h
  exact ⟨a, b, (Below.heap_setCell W p x g (fun e => hp e.symm)).trans hh⟩
theorem BoxIs.grow {g : Nat} {u v : Value} {t t0 : TypeId} {base : Nat} {W W' : World} (h : BoxIs g u v t W) (ht : t ≠ t0) (hg : Grow t0 base W W') : BoxIs g u v t W' := hg.2 g _ _ ht h
theorem Blk.grow {g : Nat} {t t0 : TypeId} {base : Nat} {W W' : World} (h : Blk g t W) (ht : t ≠ t0) (hg : Grow t0 base W W') : Blk g t W' := by
  obtain ⟨a, b, hh⟩ := h
  exact ⟨a, b, hg.2 g _ _ ht hh⟩
/-- the box w.size is read, the variable behind it is written -/
abbrev S1 (w : World) (u v : Value) (t' t : TypeId) (W : World) : Prop :=
  (W.cell? ⟨w.heap.size, 0, none⟩ = some u ∧ W.cell? ⟨w.heap.size, 1, none⟩ = some v) ∧ Sto (w.heap.size + 1) W ∧ BoxIs w.heap.size u v t' W ∧ Blk (w.heap.size + 1) t W ∧ Below w.heap.size w W
theorem S1.mk {w W : World} {u v : Value} {t' t : TypeId} (h1 : BoxIs w.heap.size u v t' W) (h2 : Blk (w.heap.size + 1) t W) (h3 : Below w.heap.size w W) : S1 w u v t' t W := ⟨h1.cells, h2.sto, h1, h2, h3⟩
theorem S1.up {w W W' : World} {u v : Value} {t' t : TypeId} (h : S1 w u v t' t W) (hb : Below W.heap.size W W') : S1 w u v t' t W' := S1.mk (h.2.2.1.up hb) (h.2.2.2.1.up hb) (h.2.2.2.2.trans (hb.mono h.2.2.2.2.size))
theorem S1.grow {w W W' : World} {u v : Value} {t' t t0 : TypeId} {base : Nat} (h : S1 w u v t' t W) (ht : t' ≠ t0) (ht2 : t ≠ t0) (hb : w.heap.size ≤ base) (hg : Grow t0 base W W') : S1 w u v t' t W' := S1.mk (h.2.2.1.grow ht hg) (h.2.2.2.1.grow ht2 hg) (h.2.2.2.2.trans (hg.1.mono hb))
theorem S1.store {w W : World} {u v : Value} {t' t : TypeId} (h : S1 w u v t' t W) (a b : Value) : S1 w u v t' t ((W.setCell ⟨w.heap.size + 1, 0, none⟩ a).setCell ⟨w.heap.size + 1, 1, none⟩ b) :=
  S1.mk ((h.2.2.1.set (by simp) _).set (by simp) _) (h.2.2.2.1.store a b) ((h.2.2.2.2.setCell (p := ⟨w.heap.size + 1, 0, none⟩) (Nat.le_succ _) a).setCell (p := ⟨w.heap.size + 1, 1, none⟩) (Nat.le_succ _) b)
theorem S1.start (w : World) (u v x y : Value) (t' t : TypeId) : S1 w u v t' t ((w.alloc (.cells #[u, v] t' (0, 0))).alloc (.cells #[x, y] t (0, 0))) :=
  S1.mk (heap_two _ _ _) ⟨x, y, heap_two' _ _ _⟩ (((Below.refl _ _).alloc (Nat.le_refl _) _).alloc (by simp) _)
theorem S1.lt {w W : World} {u v : Value} {t' t : TypeId} (h : S1 w u v t' t W) : w.heap.size < W.heap.size ∧ w.heap.size + 1 < W.heap.size := by
  have := heap_lt h.2.2.2.1.choose_spec.choose_spec
  omega
theorem S1.res {w W : World} {u v : Value} {t' t : TypeId} (h : S1 w u v t' t W) (a b : Value) : ((W.setCell ⟨w.heap.size + 1, 0, none⟩ a).setCell ⟨w.heap.size + 1, 1, none⟩ b).cell? ⟨w.heap.size + 1, 0, none⟩ = some a ∧ ((W.setCell ⟨w.heap.size + 1, 0, none⟩ a).setCell ⟨w.heap.size + 1, 1, none⟩ b).cell? ⟨w.heap.size + 1, 1, none⟩ = some b := cell2 (store2 h.2.2.2.1 a b)

section
variable {α : Type} {E : El α}
end
/-- a new block of one int, or of one edge -/
theorem new_int {w : World} {g : Nat} {m : Int} {t : TypeId} (h : w.heap[g]? = some (.cells #[.int .i64 m] t (0, 0))) : ∀ j u, (EInt.enc m)[j]? = some u → w.cell? ((⟨g, 0, none⟩ : Addr).add j) = some u := news_of (E := EInt) h rfl
theorem new_ed {w : World} {g : Nat} {m : Ed} {t : TypeId} (h : w.heap[g]? = some (.cells #[.int .i64 m.ty, .int .i64 m.fr, .int .i64 m.tq] t (0, 0))) : ∀ j u, (EEd.enc m)[j]? = some u → w.cell? ((⟨g, 0, none⟩ : Addr).add j) = some u := news_of (E := EEd) h rfl

theorem BoxIs.free {g : Nat} {u v : Value} {t : TypeId} {W : World} (h : BoxIs g u v t W) (j : Nat) : W.frozen? ⟨g, j, none⟩ = false := frozen_of_row _ _ _ _ _ h
theorem BoxIs.set0 {g : Nat} {u v : Value} {t : TypeId} {W : World} (h : BoxIs g u v t W) (x : Value) : BoxIs g x v t (W.setCell ⟨g, 0, none⟩ x) := heap_setCell_same W g 0 _ _ x h
theorem BoxIs.set1 {g : Nat} {u v : Value} {t : TypeId} {W : World} (h : BoxIs g u v t W) (x : Value) : BoxIs g u x t (W.setCell ⟨g, 1, none⟩ x) := heap_setCell_same W g 1 _ _ x h
theorem S1.set {w W : World} {u v : Value} {t' t : TypeId} (h : S1 w u v t' t W) {p : Addr} (hp : w.heap.size + 2 ≤ p.block) (x : Value) : S1 w u v t' t (W.setCell p x) :=
  S1.mk (h.2.2.1.set (by omega) x) (h.2.2.2.1.set (by omega) x) (h.2.2.2.2.setCell (by omega) x)
theorem OwnZ.set {α : Type} {E : El α} {t t' : TypeId} {w : World} {base g : Nat} {v a b x : Value} {xs : List α} (h : OwnZ E t w base v xs) (hb : BoxIs g a b t' w) (ht : t ≠ t') (j : Nat) : OwnZ E t (w.setCell ⟨g, j, none⟩ x) base v xs := by
  refine h.imp (fun h => ?_) id
  refine ⟨h.1, ?_⟩
  rcases h.2 with hn | ⟨g2, cap, cur, hv, hbg, hh, rest⟩
  · exact .inl hn
  · refine .inr ⟨g2, cap, cur, hv, hbg, (Below.heap_setCell w ⟨g, j, none⟩ x g2 (fun e => ?_)).trans hh, rest⟩
    have e : g2 = g := e
    subst e
    unfold BoxIs at hb
    rw [hb] at hh
    simp only [Option.some.injEq, Obj.cells.injEq] at hh
    exact ht hh.2.1.symm
end Go.Proofs.YtaeelanbkdkppaaDoor

