/-
  Types: the type graph that numbers describe, and Made of the reference.
-/
import Derived.Test.YtgpcaofikmdpjaaTEx
import Derived.BigRegion
import Derived.Deep.DeepCutAuto
import Derived.Deep.CutBlock
import Derived.Deep.RegionLaw
import Derived.Test.YtgpcaofikmdpjaaStep
namespace Go.Proofs.Ytgpcaofikmdpjaa
open Go.RowKit

def ETwo : El (Nat × Nat) := ⟨fun x => [.int .u8 (x.1 : Int), .int .u8 (x.2 : Int)], 2, fun _ => rfl, fun x u hu => by simp at hu; rcases hu with rfl | rfl <;> rfl⟩
abbrev Twos (w : World) (B : Nat) (A : Option Addr) (qs : List (Nat × Nat)) : Prop := Reads ETwo w B A qs
theorem Twos.cell {w : World} {B : Nat} {A : Option Addr} {qs : List (Nat × Nat)} (h : Twos w B A qs) {k : Nat} (hk : k < qs.length) : ∃ b off, A = some ⟨b, off, none⟩ ∧ b < B ∧ w.cell? ⟨b, off + k * 2, none⟩ = some (.int .u8 ((qs.getD k (0, 0)).1 : Int)) ∧ w.cell? ⟨b, off + k * 2 + 1, none⟩ = some (.int .u8 ((qs.getD k (0, 0)).2 : Int)) := by
  obtain ⟨b, off, h1, h2, h3⟩ := Reads.at h hk
  have e : qs.getD k (0, 0) = qs[k] := by rw [List.getD_eq_getElem?_getD, List.getElem?_eq_getElem hk]; rfl
  rw [e]
  exact ⟨b, off, h1, h2, h3 k hk 0 _ rfl, h3 k hk 1 _ rfl⟩
def Byt (qs : List (Nat × Nat)) : Prop := ∀ k, (qs.getD k (0, 0)).1 < 256 ∧ (qs.getD k (0, 0)).2 < 256
theorem byt_of {qs : List (Nat × Nat)} (h : ∀ q ∈ qs, q.1 < 256 ∧ q.2 < 256) : Byt qs := fun k => by
  rw [List.getD_eq_getElem?_getD]
  cases hx : qs[k]? with
  | none => exact ⟨by decide, by decide⟩
  | some x => exact h x (List.mem_of_getElem? hx)

def nmA (i : Nat) : ByteArray := ByteArray.extract ⟨#[65, 66, 67, 68, 69, 70]⟩ i (i + 1)
def nmU (i : Nat) : ByteArray := ByteArray.extract ⟨#[117, 118, 119, 120, 121, 122]⟩ i (i + 1)
def nmE (i : Nat) : ByteArray := ByteArray.extract ⟨#[101, 102, 103, 104, 105]⟩ i (i + 1)
def nOff : ByteArray := ⟨#[111, 102, 102]⟩
def nOn : ByteArray := ⟨#[111, 110]⟩
def madeAtt (i z : Nat) : List Att := if z % 4 = 1 then [⟨nmU i, -3, 3 + (z : Int) / 4 % 9, []⟩] else if z % 4 = 2 then [⟨nmU i, 0, 1, [nOff, nOn]⟩] else []
def madeNod (i a z : Nat) : Nod := ⟨nmA i, (a : Int) % ((i : Int) + 1) - 1, ((a : Int) / 16 % 4 == 3), madeAtt i z⟩
def madeN (qs : List (Nat × Nat)) : Nat → List Nod
  | 0 => []
  | k + 1 => madeN qs k ++ [madeNod k (qs.getD k (0, 0)).1 (qs.getD k (0, 0)).2]
def cntN (n : Nat) : Nat := if n = 0 then 1 else if n ≤ 6 then n else 6
def cntE (n : Nat) : Nat := if n ≤ 5 then n else 5
theorem cntN_le6 (n : Nat) : cntN n ≤ 6 := by unfold cntN; split <;> first | omega | (split <;> omega)
theorem cntN_ge1 (n : Nat) : 1 ≤ cntN n := by unfold cntN; split <;> first | omega | (split <;> omega)
theorem cntE_le5 (n : Nat) : cntE n ≤ 5 := by unfold cntE; split <;> omega
def madeEdg (n i a z : Nat) : Edg := ⟨nmE i, (a : Int) % (n : Int), (z : Int) % (n : Int), 0, -1, 0, -1⟩
def madeE (n : Nat) (rs : List (Nat × Nat)) : Nat → List Edg
  | 0 => []
  | k + 1 => madeE n rs k ++ [madeEdg n k (rs.getD k (0, 0)).1 (rs.getD k (0, 0)).2]
theorem madeN_len (qs : List (Nat × Nat)) (k : Nat) : (madeN qs k).length = k := by
  induction k with
  | zero => rfl
  | succ k ih => simp [madeN, ih]
theorem madeE_len (n : Nat) (rs : List (Nat × Nat)) (k : Nat) : (madeE n rs k).length = k := by
  induction k with
  | zero => rfl
  | succ k ih => simp [madeE, ih]
/-- the type graph that numbers describe -/
def madeT (qs rs : List (Nat × Nat)) : Typ := ⟨madeN qs (cntN qs.length), madeE (cntN qs.length) rs (cntE rs.length)⟩

/-! in memory -/
/-- blocks from B on, of attributes and of strings, are as they were -/
def Keeps (B : Nat) (w w' : World) : Prop := ∀ (g : Nat) (cs : Array Value) (t : TypeId), B ≤ g → (t = 58 ∨ t = 9) → w.heap[g]? = some (.cells cs t (0, 0)) → w'.heap[g]? = some (.cells cs t (0, 0))
theorem Keeps.refl (B : Nat) (w : World) : Keeps B w w := fun _ _ _ _ _ h => h
theorem Keeps.trans {B : Nat} {a b c : World} (h : Keeps B a b) (k : Keeps B b c) : Keeps B a c := fun g cs t h1 h2 h3 => k g cs t h1 h2 (h g cs t h1 h2 h3)
theorem lt_of_heap {w : World} {g : Nat} {o : Obj} (h : w.heap[g]? = some o) : g < w.heap.size := (Array.getElem?_eq_some_iff.1 h).1
theorem Keeps.below {B : Nat} {w w' : World} (h : Below w.heap.size w w') : Keeps B w w' := fun g _ _ _ _ h3 => (h.block g (lt_of_heap h3)).trans h3
theorem Keeps.alloc {B : Nat} (w : World) (o : Obj) : Keeps B w (w.alloc o) := Keeps.below ((Below.refl _ _).alloc (Nat.le_refl _) o)
theorem Keeps.drew {B : Nat} {a w : World} (h : Keeps B a w) : Keeps B a w.drew := h
theorem Keeps.grown {α : Type} {E : El α} {t : TypeId} {B base : Nat} {w w' : World} {v : Value} {xs : List α} (hg : w.grownBy w' v.ownBlock) (ho : OwnE E t w base v xs) (h1 : t ≠ 58) (h2 : t ≠ 9) : Keeps B w w' := fun g cs t' _ ht h => by
  refine (hg.block g (lt_of_heap h) ?_).trans h
  rcases ho.2 with ⟨e, _⟩ | ⟨g', cap, cur, e, _, hg', _⟩
  · rw [e]; exact fun he => by cases he
  · rw [e]
    intro he
    simp only [Value.ownBlock, Option.some.injEq] at he
    subst he
    rw [h] at hg'
    simp only [Option.some.injEq, Obj.cells.injEq] at hg'
    rcases ht with ht | ht
    · exact h1 (hg'.2.1.symm.trans ht)
    · exact h2 (hg'.2.1.symm.trans ht)
theorem Keeps.setCell {B : Nat} {w : World} {p : Addr} (u : Value) (hp : p.block < B) : Keeps B w (w.setCell p u) := fun g _ _ h1 _ h3 => (Below.heap_setCell w p u g (by omega)).trans h3

/-- the attributes of one node type -/
def AtR (w : World) (B : Nat) (A : Option Addr) (n c : Nat) (l : List Att) : Prop :=
  (l = [] ∧ A = none ∧ n = 0 ∧ c = 0) ∨
  (∃ (x : Att) (g : Nat) (A' : Option Addr) (c' : Nat), l = [x] ∧ A = some ⟨g, 0, none⟩ ∧ n = 1 ∧ c = 1 ∧ B ≤ g ∧ w.heap[g]? = some (.cells #[.string x.nm, .int .i64 x.lo, .int .i64 x.hi, .slice A' x.ns.length c'] 58 (0, 0)) ∧
    (x.ns = [] ∨ ∃ g', A' = some ⟨g', 0, none⟩ ∧ x.ns = [nOff, nOn] ∧ c' = 2 ∧ B ≤ g' ∧ w.heap[g']? = some (.cells #[.string nOff, .string nOn] 9 (0, 0))))
theorem AtR.kept {w w' : World} {B : Nat} {A : Option Addr} {n c : Nat} {l : List Att} (h : AtR w B A n c l) (hk : Keeps B w w') : AtR w' B A n c l := by
  rcases h with h | ⟨x, g, A', c', h1, h2, h3, h4, h5, h6, h7⟩
  · exact .inl h
  · refine .inr ⟨x, g, A', c', h1, h2, h3, h4, h5, hk _ _ _ h5 (.inl rfl) h6, ?_⟩
    rcases h7 with h7 | ⟨g', e1, e2, e3, e4, e5⟩
    · exact .inl h7
    · exact .inr ⟨g', e1, e2, e3, e4, hk _ _ _ e4 (.inr rfl) e5⟩
theorem AtR.len {w : World} {B : Nat} {A : Option Addr} {n c : Nat} {l : List Att} (h : AtR w B A n c l) : n = l.length := by
  rcases h with ⟨rfl, _, rfl, _⟩ | ⟨x, g, A', c', rfl, _, rfl, _⟩ <;> rfl
theorem AtR.atts {w : World} {B : Nat} {A : Option Addr} {n c : Nat} {l : List Att} (h : AtR w B A n c l) : Atts w w.heap.size A l := by
  rcases h with ⟨rfl, _, _, _⟩ | ⟨x, g, A', c', rfl, rfl, _, _, _, h6, h7⟩
  · exact .inl rfl
  · refine Reads.atts (B' := w.heap.size) (ys := [⟨x.nm, x.lo, x.hi, A', x.ns.length, c'⟩]) (reads_lit (E := ERaw) h6 rfl (lt_of_heap h6)) (RawRel.one ⟨A', c', rfl, ?_, ?_⟩) (Nat.le_refl _)
    · rcases h7 with h7 | ⟨g', rfl, e2, _, _, e5⟩
      · rw [h7]; exact .inl rfl
      · rw [e2]; exact reads_lit (E := EStr) e5 rfl (lt_of_heap e5)
    · rcases h7 with h7 | ⟨g', _, e2, e3, _, _⟩
      · rw [h7]; exact Nat.zero_le _
      · rw [e2, e3]; exact Nat.le_refl _

/-- rows of node types, as Made collects them -/
def RowsR (w : World) (B : Nat) (ys : List RNod) (xs : List Nod) : Prop := ys.length = xs.length ∧ ∀ (i : Nat) (y : RNod) (x : Nod), ys[i]? = some y → xs[i]? = some x → y.nm = x.nm ∧ y.par = x.par ∧ y.ab = x.ab ∧ AtR w B y.A y.n y.c x.att
theorem RowsR.nil (w : World) (B : Nat) : RowsR w B [] [] := ⟨rfl, fun i y x h => by simp at h⟩
theorem RowsR.kept {w w' : World} {B : Nat} {ys : List RNod} {xs : List Nod} (h : RowsR w B ys xs) (hk : Keeps B w w') : RowsR w' B ys xs :=
  ⟨h.1, fun i y x h1 h2 => by obtain ⟨a, b, c, d⟩ := h.2 i y x h1 h2; exact ⟨a, b, c, d.kept hk⟩⟩
theorem RowsR.snoc {w : World} {B : Nat} {ys : List RNod} {xs : List Nod} {y : RNod} {x : Nod} (h : RowsR w B ys xs) (h1 : y.nm = x.nm) (h2 : y.par = x.par) (h3 : y.ab = x.ab) (h4 : AtR w B y.A y.n y.c x.att) : RowsR w B (ys ++ [y]) (xs ++ [x]) :=
  ⟨by simp [h.1], fun i y' x' e1 e2 => by
    by_cases hi : i < ys.length
    · rw [List.getElem?_append_left hi] at e1
      rw [List.getElem?_append_left (by rw [← h.1]; exact hi)] at e2
      exact h.2 i y' x' e1 e2
    · rw [List.getElem?_append_right (by omega)] at e1
      rw [List.getElem?_append_right (by rw [← h.1]; omega)] at e2
      rw [← h.1] at e2
      cases hk : i - ys.length with
      | zero => rw [hk] at e1 e2; simp at e1 e2; subst e1 e2; exact ⟨h1, h2, h3, h4⟩
      | succ k => rw [hk] at e1; simp at e1⟩
theorem RowsR.nods {w : World} {B : Nat} {A : Option Addr} {ys : List RNod} {xs : List Nod} (h : RowsR w B ys xs) (hr : Reads ENodR w w.heap.size A ys) : Nods w w.heap.size A xs :=
  Reads.nods hr ⟨h.1, fun i y x h1 h2 => by
    obtain ⟨a, b, c, d⟩ := h.2 i y x h1 h2
    refine ⟨y.A, y.c, ?_, d.atts⟩
    rw [← a, ← b, ← c, ← d.len]; rfl⟩

theorem infoNod : (Try.prog.info? 55).map (fun i => (i.zero, i.size, i.bytes)) = some (some (.agg #[.string ⟨#[]⟩, .int .i64 0, .bool false, .slice none 0 0]), 4, 56) := by kernel_rfl
theorem infoEdg : (Try.prog.info? 60).map (fun i => (i.zero, i.size, i.bytes)) = some (some (.agg #[.string ⟨#[]⟩, .int .i64 0, .int .i64 0, .int .i64 0, .int .i64 0, .int .i64 0, .int .i64 0]), 7, 64) := by kernel_rfl
abbrev OwnN (w : World) (base : Nat) (v : Value) (ys : List RNod) : Prop := OwnE ENodR 55 w base v ys
abbrev OwnG (w : World) (base : Nat) (v : Value) (ys : List Edg) : Prop := OwnE EEdg 60 w base v ys

end Go.Proofs.Ytgpcaofikmdpjaa

namespace Go.Proofs.Ytgpcaofikmdpjaa
open Go.RowKit

/-- what the loop over node types keeps -/
def LoopN (w : World) (qs : List (Nat × Nat)) (i : Nat) (v : Value) (ys : List RNod) (wr : World) : Prop :=
  wr.heap[w.heap.size]? = some (.cells #[.slice none 0 0, .slice none 0 0] 25 (0, 0)) ∧ wr.heap[w.heap.size + 1]? = some (.cells #[v, .slice none 0 0] 25 (0, 0)) ∧ OwnN wr (w.heap.size + 2) v ys ∧ RowsR wr (w.heap.size + 2) ys (madeN qs i) ∧ Below w.heap.size w wr ∧ w.heap.size + 2 ≤ wr.heap.size

/-- what a round leaves ahead of its append -/
def MidN (wc : World) (B : Nat) (i : Nat) (mm : Int) (ab : Bool) (z : Nat) (wx : World) : Prop :=
  ∃ (A0 : Option Addr) (n0 c0 : Nat), wx.heap[wc.heap.size + 1]? = some (.cells #[.string (nmA i), .int .i64 (mm - 1), .bool ab, .slice A0 n0 c0] 55 (0, 0)) ∧ AtR wx B A0 n0 c0 (madeAtt i z) ∧ Below wc.heap.size wc wx ∧ wc.heap.size + 2 ≤ wx.heap.size

theorem mid1 (wo : World) (B i : Nat) (mm : Int) (ab : Bool) (z : Nat) (o : Obj) (hz : z % 4 = 1) (hB : B ≤ wo.heap.size) :
    MidN wo B i mm ab z (((wo.alloc o).alloc (.cells #[.string (nmA i), .int .i64 (mm - 1), .bool ab, .slice (some ⟨wo.heap.size + 1 + 1, 0, none⟩) 1 1] 55 (0, 0))).alloc (.cells #[.string (nmU i), .int .i64 (-3), .int .i64 (3 + (z : Int) / 4 % 9), .slice none 0 0] 58 (0, 0))).drew := by
  refine ⟨_, 1, 1, ?_, .inr ⟨⟨nmU i, -3, 3 + (z : Int) / 4 % 9, []⟩, wo.heap.size + 1 + 1, none, 0, by unfold madeAtt; rw [if_pos hz], rfl, rfl, rfl, by omega, ?_, .inl rfl⟩, ?_, ?_⟩
  · show (((wo.alloc _).alloc _).alloc _).heap[wo.heap.size + 1]? = _
    simp only [tat_alloc, tsize_alloc]; rw [if_neg (by omega), if_pos trivial]
  · show (((wo.alloc _).alloc _).alloc _).heap[wo.heap.size + 1 + 1]? = _
    simp only [tat_alloc, tsize_alloc]; rw [if_pos trivial]; rfl
  · exact Below.drew ((((Below.refl _ _).alloc (Nat.le_refl _) _).alloc (by simp) _).alloc (by simp; omega) _)
  · show _ ≤ (((wo.alloc _).alloc _).alloc _).heap.size
    simp only [tsize_alloc]; omega
theorem mid2 (wo : World) (B i : Nat) (mm : Int) (ab : Bool) (z : Nat) (o : Obj) (hz : z % 4 = 2) (hB : B ≤ wo.heap.size) :
    MidN wo B i mm ab z ((((wo.alloc o).alloc (.cells #[.string (nmA i), .int .i64 (mm - 1), .bool ab, .slice (some ⟨wo.heap.size + 1 + 1 + 1, 0, none⟩) 1 1] 55 (0, 0))).alloc (.cells #[.string nOff, .string nOn] 9 (0, 0))).alloc (.cells #[.string (nmU i), .int .i64 0, .int .i64 1, .slice (some ⟨wo.heap.size + 1 + 1, 0, none⟩) 2 2] 58 (0, 0))).drew := by
  refine ⟨_, 1, 1, ?_, .inr ⟨⟨nmU i, 0, 1, [nOff, nOn]⟩, wo.heap.size + 1 + 1 + 1, some ⟨wo.heap.size + 1 + 1, 0, none⟩, 2, by unfold madeAtt; rw [if_neg (by omega), if_pos hz], rfl, rfl, rfl, by omega, ?_, .inr ⟨wo.heap.size + 1 + 1, rfl, rfl, rfl, by omega, ?_⟩⟩, ?_, ?_⟩
  · show ((((wo.alloc _).alloc _).alloc _).alloc _).heap[wo.heap.size + 1]? = _
    simp only [tat_alloc, tsize_alloc]; rw [if_neg (by omega), if_neg (by omega), if_pos trivial]
  · show ((((wo.alloc _).alloc _).alloc _).alloc _).heap[wo.heap.size + 1 + 1 + 1]? = _
    simp only [tat_alloc, tsize_alloc]; rw [if_pos trivial]; rfl
  · show ((((wo.alloc _).alloc _).alloc _).alloc _).heap[wo.heap.size + 1 + 1]? = _
    simp only [tat_alloc, tsize_alloc]; rw [if_neg (by omega), if_pos trivial]
  · exact Below.drew (((((Below.refl _ _).alloc (Nat.le_refl _) _).alloc (by simp) _).alloc (by simp; omega) _).alloc (by simp; omega) _)
  · show _ ≤ ((((wo.alloc _).alloc _).alloc _).alloc _).heap.size
    simp only [tsize_alloc]; omega
theorem mid0 (wo : World) (B i : Nat) (mm : Int) (ab : Bool) (z : Nat) (o : Obj) (hz : z % 4 ≠ 1) (hz2 : z % 4 ≠ 2) (_ : B ≤ wo.heap.size) :
    MidN wo B i mm ab z ((wo.alloc o).alloc (.cells #[.string (nmA i), .int .i64 (mm - 1), .bool ab, .slice none 0 0] 55 (0, 0))).drew := by
  refine ⟨_, 0, 0, ?_, .inl ⟨by unfold madeAtt; rw [if_neg hz, if_neg hz2], rfl, rfl, rfl⟩, ?_, ?_⟩
  · show ((wo.alloc _).alloc _).heap[wo.heap.size + 1]? = _
    simp only [tat_alloc, tsize_alloc]; rw [if_pos trivial]
  · exact Below.drew (((Below.refl _ _).alloc (Nat.le_refl _) _).alloc (by simp) _)
  · show _ ≤ ((wo.alloc _).alloc _).heap.size
    simp only [tsize_alloc]; omega

theorem round_cnt {i n : Nat} (h : i = 0 ∨ (i < n ∧ i < 6)) : i + 1 ≤ cntN n := by
  unfold cntN; split <;> first | omega | (split <;> omega)
theorem exit_cnt {i n : Nat} (h1 : i ≤ cntN n) (h : ¬ (i = 0 ∨ (i < n ∧ i < 6))) : i = cntN n := by
  unfold cntN at *; split at h1 <;> rename_i h2
  · rw [if_pos h2]; omega
  · rw [if_neg h2]
    split at h1 <;> rename_i h3
    · rw [if_pos h3]; omega
    · rw [if_neg h3]; omega
theorem start_loop (w : World) (qs : List (Nat × Nat)) : LoopN w qs 0 (.slice none 0 0) [] ((w.alloc (.cells #[.slice none 0 0, .slice none 0 0] 25 (0, 0))).alloc (.cells #[.slice none 0 0, .slice none 0 0] 25 (0, 0))) :=
  ⟨heap_two _ _ _, heap_two' _ _ _, OwnE.nil _ _ _, RowsR.nil _ _, ((Below.refl _ _).alloc (Nat.le_refl _) _).alloc (by simp) _, by simp⟩
theorem round_rows {w : World} {B i a z : Nat} {mm : Int} {A0 : Option Addr} {n0 c0 : Nat} {ys : List RNod} {qs : List (Nat × Nat)} (h : RowsR w B ys (madeN qs i)) (hq : (a, z) = qs.getD i (0, 0)) (hm : (a : Int) % ((i : Int) + 1) = mm) (hat : AtR w B A0 n0 c0 (madeAtt i z)) :
    RowsR w B (ys ++ [⟨nmA i, mm - 1, ((a : Int) / 16 % 4 == 3), A0, n0, c0⟩]) (madeN qs (i + 1)) := by
  unfold madeN
  rw [← hq]
  refine h.snoc rfl ?_ rfl hat
  show mm - 1 = _
  rw [← hm]; rfl

/-- what the loop over edge types keeps -/
def LoopG (w : World) (n : Nat) (v : Value) (ys : List RNod) (qs rs : List (Nat × Nat)) (j : Nat) (v2 : Value) (wr : World) : Prop :=
  wr.heap[w.heap.size]? = some (.cells #[.slice none 0 0, .slice none 0 0] 25 (0, 0)) ∧ wr.heap[w.heap.size + 1]? = some (.cells #[v, v2] 25 (0, 0)) ∧ OwnN wr (w.heap.size + 2) v ys ∧ RowsR wr (w.heap.size + 2) ys (madeN qs n) ∧ OwnG wr (w.heap.size + 2) v2 (madeE n rs j) ∧ Below w.heap.size w wr ∧ w.heap.size + 2 ≤ wr.heap.size
theorem after_heap {wr w3 : World} {o : Obj} {g B : Nat} {x : Obj} (hb : Below B (wr.alloc o).drew w3) (hg : g < B) (hz : B ≤ wr.heap.size) (h : wr.heap[g]? = some x) : w3.heap[g]? = some x :=
  (hb.block g hg).trans ((Below.heap_alloc wr o g (Nat.lt_of_lt_of_le hg hz)).trans h)
theorem Keeps.drew' {B : Nat} {a b : World} (h : Keeps B a.drew b) : Keeps B a b := h
theorem size_alloc_le {w w3 : World} {o : Obj} (h : (w.alloc o).drew.heap.size ≤ w3.heap.size) : w.heap.size + 1 ≤ w3.heap.size := by
  have e : (w.alloc o).drew.heap.size = w.heap.size + 1 := tsize_alloc w o
  omega
theorem below_of_drew {B B' : Nat} {a b : World} (h : Below B a.drew b) (hb : B' ≤ B) : Below B' a b := (Below.drew (Below.refl B' a)).trans (h.mono hb)
theorem own_kept_drew {α : Type} {E : El α} {t : TypeId} {w w3 : World} {o : Obj} {base : Nat} {v : Value} {xs : List α} {row : Option Nat} (h : OwnE E t w base v xs) (hg : (w.alloc o).drew.grownBy w3 row) (hne : v.ownBlock = none ∨ v.ownBlock ≠ row) : OwnE E t w3 base v xs :=
  ((h.alloc o).below (Below.drew (Below.refl _ _)) (Nat.le_refl _)).kept hg hne
theorem own_made {w3 : World} {B : Nat} {v : Value} {es' : List Edg} {i j a z : Nat} {rs : List (Nat × Nat)} (h : OwnG w3 B v es') (he : madeE i rs j ++ [⟨nmE j, (a : Int) % (i : Int), (z : Int) % (i : Int), 0, -1, 0, -1⟩] = es') (hq : (a, z) = rs.getD j (0, 0)) : OwnG w3 B v (madeE i rs (j + 1)) := by
  subst he
  unfold madeE
  rw [← hq]
  exact h
theorem round_cntE {j n : Nat} (h : j < n ∧ j < 5) : j + 1 ≤ cntE n := by unfold cntE; split <;> omega
theorem exit_cntE {j n : Nat} (h1 : j ≤ cntE n) (h : ¬ (j < n ∧ j < 5)) : j = cntE n := by
  unfold cntE at *; split at h1 <;> rename_i h2
  · rw [if_pos h2]; omega
  · rw [if_neg h2]; omega

/-- what Made answers -/
def MadePost (qs rs : List (Nat × Nat)) (e : Ending) (w' : World) : Prop :=
  ∃ (An : Option Addr) (cn : Nat) (Ae : Option Addr) (ce : Nat), e = .returned (tyval An (madeT qs rs).nodes.length cn Ae (madeT qs rs).edges.length ce) ∧ CapT (madeT qs rs) cn ce ∧ TyC w' An Ae (madeT qs rs)
theorem made_done {w : World} {B i j cap cap2 : Nat} {ao ao2 : Option Addr} {ys : List RNod} {qs rs : List (Nat × Nat)} (hi : i = cntN qs.length) (hj : j = cntE rs.length) (ho : OwnN w B (.slice ao i cap) ys) (hr : RowsR w B ys (madeN qs i)) (hg : OwnG w B (.slice ao2 j cap2) (madeE i rs j)) :
    MadePost qs rs (.returned (tyval ao i cap ao2 j cap2)) w := by
  subst hi hj
  have e1 : (madeT qs rs).nodes.length = cntN qs.length := madeN_len _ _
  have e2 : (madeT qs rs).edges.length = cntE rs.length := madeE_len _ _ _
  have e3 : ys.length = cntN qs.length := hr.1.trans (madeN_len _ _)
  refine ⟨ao, cap, ao2, cap2, by rw [e1, e2], ⟨by rw [e1, ← e3]; exact OwnE.cap ho, ?_⟩, hr.nods (OwnE.readAt ho e3.symm), OwnE.readAt hg (madeE_len _ _ _).symm⟩
  have := OwnE.cap hg
  rw [madeE_len] at this
  rw [e2]
  exact this

set_option maxRecDepth 100000 in
set_option maxHeartbeats 2000000 in
theorem made_any (qs rs : List (Nat × Nat)) (A A' : Option Addr) (c c' : Nat) (w : World) (hq : Byt qs) (hr : Byt rs) (hT : Twos w w.heap.size A qs) (hT' : Twos w w.heap.size A' rs) :
    Calls Try.prog 31 #[.slice A qs.length c, .slice A' rs.length c'] w fun e w' => MadePost qs rs e w' ∧ Below w.heap.size w w' := by
  have HT := Lib.hid hT
  have HQ := Lib.hid hq
  have HR := Lib.hid hr
  have HT2 := Lib.hid hT'
  clear hT hT' hq hr
  go_enter Try.func31, Try.ntmps31
  go_wp2_with fail
  go_loopw [6] (fun vi wr => ∃ (i : Nat) (v : Value) (ys : List RNod), i ≤ cntN qs.length ∧ vi = .int .i64 i ∧ LoopN w qs i v ys wr) (fun vi _ => 6 - (intOf vi).toNat)
  case atStart => exact ⟨0, .slice none 0 0, [], Nat.zero_le _, rfl, start_loop w qs⟩
  case round =>
    obtain ⟨i, v, ys, hi, rfl, h4, h5, hown, hrow, hB, hz⟩ := hrel
    by_cases hin : i = 0 ∨ (i < qs.length ∧ i < 6)
    · have i0 : (0 : Int) ≤ (i : Int) := by omega
      have i2 : ((i : Int)).toNat = i := by omega
      have i5 : i ≤ 5 := by omega
      have H4 := Lib.hid h4
      have H5 := Lib.hid h5
      have HO := Lib.hid hown
      have HRW := Lib.hid hrow
      have HB := Lib.hid hB
      have HIN := Lib.hid hin
      clear h4 h5 hown hrow hB hi
      go_upto_region 3 with (fail)
      go_cut [23] (fun u wx => u = .bool true ∧ wx = wr)
      case first =>
        by_cases h0 : i = 0
        · have t3 : ((i : Int) == 0) = true := by rw [h0]; rfl
          have H0 := Lib.hid h0
          clear h0 hin
          go_wp2_with fail
          all_goals
            go_meet
            exact ⟨rfl, rfl⟩
        · have t3 : ((i : Int) == 0) = false := beq_eq_false_iff_ne.2 (by omega)
          have t1 : decide (i < qs.length) = true := decide_eq_true (by omega)
          have t2 : decide ((i : Int) < 6) = true := decide_eq_true (by omega)
          clear h0 hin
          go_wp2_with fail
          go_meet
          exact ⟨rfl, rfl⟩
      case rest =>
        obtain ⟨rfl, rfl⟩ := hcut
        go_upto_if 30 with (fail)
        go_cut [] (fun wx => wx = wc.alloc (Obj.cells #[Value.int .u8 ((qs.getD i (0, 0)).1 : Int), Value.int .u8 ((qs.getD i (0, 0)).2 : Int)] 74 (0, 0)))
        case first =>
          by_cases h1 : i < qs.length
          · have t1 : decide (i < qs.length) = true := decide_eq_true (by omega)
            obtain ⟨b, off, rfl, hbb, m0, m1⟩ := Twos.cell (Reads.below HT.out HB.out) h1
            obtain ⟨q0, q1⟩ := HQ.out i
            generalize qs.getD i (0, 0) = q at *
            obtain ⟨a, z⟩ := q
            dsimp only at *
            have hbw : b < wc.heap.size := by omega
            have i1 : (i : Int) < (qs.length : Int) := by omega
            clear h1 hin
            go_wp2_with fail
            go_meet
            rfl
          · have t1 : decide (i < qs.length) = false := decide_eq_false (by omega)
            have e := Lib.hid (show qs.getD i (0, 0) = (0, 0) by rw [List.getD_eq_getElem?_getD, List.getElem?_eq_none (by omega)]; rfl)
            clear hin
            go_wp2_with fail
            go_meet
            rw [e.out]; rfl
        case rest =>
          obtain rfl := hcut
          obtain ⟨q0, q1⟩ := HQ.out i
          obtain ⟨q, hqe⟩ : ∃ q, q = qs.getD i (0, 0) := ⟨_, rfl⟩
          have HQE := Lib.hid hqe
          rw [← hqe] at q0 q1 ⊢
          clear hqe hin
          obtain ⟨wo, hwo⟩ : ∃ wo, wo = wc := ⟨_, rfl⟩
          subst hwo
          obtain ⟨a, z⟩ := q
          dsimp only at q0 q1 ⊢
          have hz1 : w.heap.size + 1 < wo.heap.size := by omega
          have hz2 : w.heap.size < wo.heap.size := by omega
          have hm0 : 0 ≤ (a : Int) % ((i : Int) + 1) := Int.emod_nonneg _ (by omega)
          have hm1 : (a : Int) % ((i : Int) + 1) < (i : Int) + 1 := Int.emod_lt_of_pos _ (by omega)
          obtain ⟨mm, hmm⟩ : ∃ mm, (a : Int) % ((i : Int) + 1) = mm := ⟨_, rfl⟩
          rw [hmm] at hm0 hm1
          have HMM := Lib.hid hmm
          go_wp2_with fail
          go_region
          clear hmm
          go_upto_block 2 with fail
          go_cut [] (fun wx => MidN wo (w.heap.size + 2) i mm ((a : Int) / 16 % 4 == 3) z wx)
          case first =>
            have hzz : z % 4 = 1 ∨ z % 4 = 2 ∨ (z % 4 ≠ 1 ∧ z % 4 ≠ 2) := by omega
            rcases hzz with hzz | hzz | ⟨hzz, hzz2⟩
            · have t5 : ((z : Int) % 4 == 1) = true := beq_iff_eq.2 (by omega)
              have HZ := Lib.hid hzz
              clear hzz
              go_wp2_with fail
              go_meet
              exact mid1 _ _ _ _ _ _ _ HZ.out hz
            · have t5 : ((z : Int) % 4 == 1) = false := beq_eq_false_iff_ne.2 (by omega)
              have t6 : ((z : Int) % 4 == 2) = true := beq_iff_eq.2 (by omega)
              have HZ := Lib.hid hzz
              clear hzz
              go_wp2_with fail
              go_meet
              exact mid2 _ _ _ _ _ _ _ HZ.out hz
            · have t5 : ((z : Int) % 4 == 1) = false := beq_eq_false_iff_ne.2 (by omega)
              have t6 : ((z : Int) % 4 == 2) = false := beq_eq_false_iff_ne.2 (by omega)
              have HZ := Lib.hid hzz
              have HZ2 := Lib.hid hzz2
              clear hzz hzz2
              go_wp2_with fail
              go_meet
              exact mid0 _ _ _ _ _ _ _ HZ.out HZ2.out hz
          case rest =>
            obtain ⟨A0, n0, c0, hnd, hat, hmb, hms⟩ := hcut
            have k80 : wc.cell? ⟨wo.heap.size + 1, 0, none⟩ = some (.string (nmA i)) := cell_of_row _ _ _ _ _ _ hnd
            have k81 : wc.cell? ⟨wo.heap.size + 1, 1, none⟩ = some (.int .i64 (mm - 1)) := cell_of_row _ _ _ _ _ _ hnd
            have k82 : wc.cell? ⟨wo.heap.size + 1, 2, none⟩ = some (.bool ((a : Int) / 16 % 4 == 3)) := cell_of_row _ _ _ _ _ _ hnd
            have k83 : wc.cell? ⟨wo.heap.size + 1, 3, none⟩ = some (.slice A0 n0 c0) := cell_of_row _ _ _ _ _ _ hnd
            have h5' := (hmb.block (w.heap.size + 1) hz1).trans H5.out
            have k50 : wc.cell? ⟨w.heap.size + 1, 0, none⟩ = some v := cell_of_row _ _ _ _ _ _ h5'
            have H4 := Lib.hid ((hmb.block w.heap.size hz2).trans H4.out)
            have H5 := Lib.hid h5'
            have HO := Lib.hid (HO.out.below hmb (Nat.le_refl _))
            have HRW := Lib.hid (HRW.out.kept (Keeps.below hmb))
            have HB := Lib.hid (HB.out.trans (hmb.mono (by have := HB.out.size; omega)))
            have HAT := Lib.hid hat
            have hz1 : w.heap.size + 1 < wc.heap.size := by omega
            have hz2 : w.heap.size < wc.heap.size := by omega
            have hz : w.heap.size + 2 ≤ wc.heap.size := by omega
            clear hnd hat hmb hms h5'
            have hyl : ys.length = i := by have := HRW.out.1; rw [madeN_len] at this; exact this
            have HYL := Lib.hid hyl
            have hyl2 : ys.length ≤ 1000000 := by omega
            clear hyl
            obtain ⟨ao, cap, hv⟩ := HO.out.slice
            subst hv
            go_wp2_with (at_builtin; refine wpList_append_E (E := ENodR) (w := wc.alloc _) rfl _ _ 22 55 rfl Try.underlying22 infoNod rfl (by decide) (by decide) (w.heap.size + 2) _ ys rfl ?y1 ⟨wc.heap.size, 0, none⟩ 1 ⟨nmA i, mm - 1, ((a : Int) / 16 % 4 == 3), A0, n0, c0⟩ rfl ?y2 ?y3 ?y4 ?_)
            case y1 => exact HO.out.alloc _
            case y2 => exact news_of (heap_alloc_new wc _) rfl
            case y3 => exact hyl2
            case y4 => simp; omega
            intro v' w1 ho1 hg1 hb1
            generalize hys : ys ++ [_] = ys' at ho1
            have HYS := Lib.hid hys
            obtain ⟨ao2, cap2, rfl⟩ := ho1.slice
            clear hys
            have h4' := (hb1.block w.heap.size (by omega)).trans ((Below.heap_alloc wc _ _ hz2).trans H4.out)
            have h5' := (hb1.block (w.heap.size + 1) (by omega)).trans ((Below.heap_alloc wc _ _ hz1).trans H5.out)
            have f5 : w1.frozen? ⟨w.heap.size + 1, 0, none⟩ = false := frozen_of_row _ _ _ _ _ h5'
            have HK := Lib.hid ((Keeps.alloc (B := w.heap.size + 2) wc _).trans (Keeps.grown hg1 (HO.out.alloc _) (by decide) (by decide)))
            have HB1 := Lib.hid (HB.out.trans ((((Below.refl _ _).alloc (Nat.le_refl _) _).mono (Nat.le_of_lt hz2)).trans (hb1.mono (by omega))))
            have hs1 : w.heap.size + 2 ≤ w1.heap.size := by have := hb1.size; simp at this; omega
            have HO1 := Lib.hid ho1
            have H4' := Lib.hid h4'
            have H5' := Lib.hid h5'
            have k51' : w1.cell? ⟨w.heap.size + 1, 0, none⟩ = some (.slice ao ys.length cap) := cell_of_row _ _ _ _ _ _ h5'
            clear h4' h5' hb1 hg1 ho1
            go_wp2_with fail
            go_roundw
            case rel => exact ⟨i + 1, _, ys', round_cnt HIN.out, by go_num, (Below.heap_setCell _ _ _ _ (by simp)).trans H4'.out, heap_setCell_same w1 _ 0 _ _ _ H5'.out, ownsRow_setCell_below HO1.out (by simp) _, HYS.out ▸ round_rows (HRW.out.kept (HK.out.trans (Keeps.setCell _ (by simp)))) HQE.out HMM.out (HAT.out.kept (HK.out.trans (Keeps.setCell _ (by simp)))), HB1.out.setCell (by simp) _, by simp; omega⟩
            case measure => simp [intOf]; omega
    · have hiN : i = cntN qs.length := exit_cnt hi hin
      have hn1 : 1 ≤ i := by omega
      have hn6 : i ≤ 6 := by rw [hiN]; exact cntN_le6 _
      have H4 := Lib.hid h4
      have H5 := Lib.hid h5
      have HO := Lib.hid hown
      have HRW := Lib.hid hrow
      have HB := Lib.hid hB
      have HIN := Lib.hid hiN
      have i0 : (0 : Int) ≤ (i : Int) := by omega
      clear h4 h5 hown hrow hB hi hiN
      go_upto_region 3 with (fail)
      go_cut [23] (fun u wx => u = .bool false ∧ wx = wr)
      case first =>
        have t3 : ((i : Int) == 0) = false := beq_eq_false_iff_ne.2 (by omega)
        by_cases h1 : i < qs.length
        · have t1 : decide (i < qs.length) = true := decide_eq_true h1
          have t2 : decide ((i : Int) < 6) = false := decide_eq_false (by omega)
          clear hin
          go_wp2_with fail
          go_meet
          exact ⟨rfl, rfl⟩
        · have t1 : decide (i < qs.length) = false := decide_eq_false h1
          clear hin
          go_wp2_with fail
          go_meet
          exact ⟨rfl, rfl⟩
      case rest =>
        obtain ⟨rfl, rfl⟩ := hcut
        clear hin
        have hyl : ys.length = i := by have := HRW.out.1; rw [madeN_len] at this; exact this
        obtain ⟨ao, cap, hv⟩ := HO.out.slice
        rw [hyl] at hv
        subst hv
        clear hyl
        go_wp2_with fail
        go_loopw [10] (fun vj wr => ∃ (j : Nat) (v2 : Value), j ≤ cntE rs.length ∧ vj = .int .i64 j ∧ LoopG w i (.slice ao i cap) ys qs rs j v2 wr) (fun vj _ => 5 - (intOf vj).toNat)
        case atStart => exact ⟨0, .slice none 0 0, Nat.zero_le _, rfl, H4.out, H5.out, HO.out, HRW.out, OwnE.nil _ _ _, HB.out, hz⟩
        case round =>
          clear H4 H5 HO HRW HB hz
          obtain ⟨j, v2, hj, rfl, h4, h5, hown, hrow, hedg, hB, hz⟩ := hrel
          have H4 := Lib.hid h4
          have H5 := Lib.hid h5
          have HO := Lib.hid hown
          have HRW := Lib.hid hrow
          have HG := Lib.hid hedg
          have HB := Lib.hid hB
          have j0 : (0 : Int) ≤ (j : Int) := by omega
          have hz1 : w.heap.size + 1 < wr.heap.size := by omega
          have hz2 : w.heap.size < wr.heap.size := by omega
          obtain ⟨ao2, cap2, hv2⟩ := HG.out.slice
          rw [madeE_len] at hv2
          subst hv2
          have k50 : wr.cell? ⟨w.heap.size + 1, 0, none⟩ = some (.slice ao i cap) := cell_of_row _ _ _ _ _ _ h5
          have k51 : wr.cell? ⟨w.heap.size + 1, 1, none⟩ = some (.slice ao2 j cap2) := cell_of_row _ _ _ _ _ _ h5
          by_cases hin : j < rs.length ∧ j < 5
          · have t1 : decide (j < rs.length) = true := decide_eq_true hin.1
            have t2 : decide ((j : Int) < 5) = true := decide_eq_true (by omega)
            obtain ⟨b, off, rfl, hbb, m0, m1⟩ := Twos.cell (Reads.below HT2.out HB.out) hin.1
            obtain ⟨q0, q1⟩ := HR.out j
            obtain ⟨q, hqe⟩ : ∃ q, q = rs.getD j (0, 0) := ⟨_, rfl⟩
            have HQE := Lib.hid hqe
            rw [← hqe] at q0 q1 m0 m1
            obtain ⟨a, z⟩ := q
            dsimp only at q0 q1 m0 m1
            have hbw : b < wr.heap.size := by omega
            have j1 : (j : Int) < (rs.length : Int) := by omega
            have j2 : ((j : Int)).toNat = j := by omega
            have j5 : j ≤ 4 := by omega
            have i1 : (1 : Int) ≤ (i : Int) := by omega
            have i2 : ((i : Int) == 0) = false := beq_eq_false_iff_ne.2 (by omega)
            have i3 : ¬ i = 0 := by omega
            have TA := Lib.hid (Int.tmod_eq_emod_of_nonneg (a := (a : Int)) (b := (i : Int)) (by omega))
            have TZ := Lib.hid (Int.tmod_eq_emod_of_nonneg (a := (z : Int)) (b := (i : Int)) (by omega))
            have HJN := Lib.hid (round_cntE hin)
            clear hin hqe hj h4 h5 hown hrow hedg hB
            have HE2 := Lib.hid (show (madeE i rs j).length ≤ 1000000 by rw [madeE_len]; omega)
            have HZ2 := Lib.hid (fun (o : Obj) => (show w.heap.size + 2 ≤ (wr.alloc o).heap.size by simp; omega))
            have HLT := Lib.hid (show w.heap.size + 1 < w.heap.size + 2 by omega)
            have HZZ := Lib.hid hz
            have HLT0 := Lib.hid (show w.heap.size < w.heap.size + 2 by omega)
            have e3 : (0 : Int) ≤ (j : Int) + 1 := by omega
            have e4 : (j : Int) + 1 ≤ 5 := by omega
            have e5 : (j : Int) ≤ (j : Int) + 1 := by omega
            have e2 : ((j : Int) + 1).toNat = j + 1 := by omega
            have e6 : IntKind.i64.wrap (a : Int) = (a : Int) := IntWalk.i64_in _ (by omega)
            have e7 : IntKind.i64.wrap (z : Int) = (z : Int) := IntWalk.i64_in _ (by omega)
            have e8 := TA.out
            have e9 := TZ.out
            have e1 : IntKind.i64.wrap ((j : Int) + 1) = (j : Int) + 1 := IntWalk.i64_in _ (by omega)
            go_wp2_with fail
            go_region_law (refine step_append_E (E := EEdg) (by rfl) _ _ 23 60 (by rfl) Try.underlying23 infoEdg rfl (by decide) (by decide) (w.heap.size + 2) (.slice ao2 j cap2) (madeE i rs j) (by rfl) (HG.out.alloc _) ⟨wr.heap.size, 0, none⟩ 1 ⟨nmE j, (a : Int) % (i : Int), (z : Int) % (i : Int), 0, -1, 0, -1⟩ (by rfl) (news_of (heap_alloc_new wr _) rfl) HE2.out (HZ2.out _) ?_; intro v3 w3 ho3 hg3 hb3; generalize hes : madeE i rs j ++ [_] = es' at ho3; have HES := Lib.hid hes; clear hes; obtain ⟨ao3, cap3, rfl⟩ := ho3.slice; have h5' := after_heap hb3 HLT.out HZZ.out H5.out; have k51' : w3.cell? ⟨w.heap.size + 1, 1, none⟩ = some (.slice ao2 j cap2) := cell_of_row _ _ _ _ _ _ h5'; have f51 : w3.frozen? ⟨w.heap.size + 1, 1, none⟩ = false := frozen_of_row _ _ _ _ _ h5'; clear h5'; have HO3 := Lib.hid ho3; have HG3 := Lib.hid hg3; have HB3 := Lib.hid hb3; clear ho3 hg3 hb3)
            all_goals
              clear e1 e6 e7 e8 e9 e3 e4 e5 e2
              have HK := Lib.hid ((Keeps.alloc (B := w.heap.size + 2) wr _).trans (Keeps.drew' (Keeps.grown HG3.out ((HG.out.alloc _).below (Below.drew (Below.refl _ _)) (Nat.le_refl _)) (by decide) (by decide))))
              have hs3 := HB3.out.size
              have HSZ := Lib.hid (Nat.le_trans hz (Nat.le_trans (Nat.le_of_lt (Nat.lt_succ_self _)) (size_alloc_le hs3)))
              have h4' := after_heap HB3.out HLT0.out HZZ.out H4.out
              have h5' := after_heap HB3.out HLT.out HZZ.out H5.out
              have H4' := Lib.hid h4'
              have H5' := Lib.hid h5'
              have HOO := Lib.hid (own_kept_drew HO.out HG3.out (own_apart (by decide) HO.out HG.out))
              have HBB := Lib.hid (HB.out.trans ((((Below.refl _ _).alloc (Nat.le_refl _) _).mono (Nat.le_of_lt hz2)).trans (below_of_drew HB3.out (by omega))))
              clear h4' h5' hs3
              go_wp2_with fail
              go_roundw
              case rel => exact ⟨j + 1, _, HJN.out, by go_num, (Below.heap_setCell _ _ _ _ (by simp)).trans H4'.out, heap_setCell_same w3 _ 1 _ _ _ H5'.out, ownsRow_setCell_below HOO.out (by simp) _, HRW.out.kept (HK.out.trans (Keeps.setCell _ (by simp))), ownsRow_setCell_below (own_made HO3.out HES.out HQE.out) (by simp) _, HBB.out.setCell (by simp) _, by simp; exact HSZ.out⟩
              case measure => simp [intOf]; omega
          · have hjE := exit_cntE hj hin
            have HJE := Lib.hid hjE
            have H4 := Lib.hid h4
            have f4 : wr.frozen? ⟨w.heap.size, 0, none⟩ = false := frozen_of_row _ _ _ _ _ h4
            have f41 : wr.frozen? ⟨w.heap.size, 1, none⟩ = false := frozen_of_row _ _ _ _ _ h4
            have k40 : wr.cell? ⟨w.heap.size, 0, none⟩ = some (.slice none 0 0) := cell_of_row _ _ _ _ _ _ h4
            have k41 : wr.cell? ⟨w.heap.size, 1, none⟩ = some (.slice none 0 0) := cell_of_row _ _ _ _ _ _ h4
            clear h4 h5 hown hrow hedg hB hj hjE
            by_cases h1 : j < rs.length
            · have t1 : decide (j < rs.length) = true := decide_eq_true h1
              have t2 : decide ((j : Int) < 5) = false := decide_eq_false (by omega)
              clear hin
              go_wp2_with fail
              have hh := heap_setCell_same _ w.heap.size 1 _ _ (Value.slice ao2 j cap2) (heap_setCell_same wr w.heap.size 0 _ _ (Value.slice ao i cap) H4.out)
              have r0 : ((wr.setCell ⟨w.heap.size, 0, none⟩ (.slice ao i cap)).setCell ⟨w.heap.size, 1, none⟩ (.slice ao2 j cap2)).cell? ⟨w.heap.size, 0, none⟩ = some (.slice ao i cap) := cell_of_row _ _ _ _ _ _ hh
              have r1 : ((wr.setCell ⟨w.heap.size, 0, none⟩ (.slice ao i cap)).setCell ⟨w.heap.size, 1, none⟩ (.slice ao2 j cap2)).cell? ⟨w.heap.size, 1, none⟩ = some (.slice ao2 j cap2) := cell_of_row _ _ _ _ _ _ hh
              refine bodyPost_ret (v := tyval ao i cap ao2 j cap2) (by simp [results, Try.results31, go_sem, r0, r1]) rfl ?_
              exact ⟨made_done HIN.out HJE.out (ownsRow_setCell_below (ownsRow_setCell_below HO.out (by simp) _) (by simp) _) (HRW.out.kept ((Keeps.setCell _ (by simp)).trans (Keeps.setCell _ (by simp)))) (ownsRow_setCell_below (ownsRow_setCell_below HG.out (by simp) _) (by simp) _), (HB.out.setCell (by simp) _).setCell (by simp) _⟩
            · have t1 : decide (j < rs.length) = false := decide_eq_false h1
              clear hin
              go_wp2_with fail
              have hh := heap_setCell_same _ w.heap.size 1 _ _ (Value.slice ao2 j cap2) (heap_setCell_same wr w.heap.size 0 _ _ (Value.slice ao i cap) H4.out)
              have r0 : ((wr.setCell ⟨w.heap.size, 0, none⟩ (.slice ao i cap)).setCell ⟨w.heap.size, 1, none⟩ (.slice ao2 j cap2)).cell? ⟨w.heap.size, 0, none⟩ = some (.slice ao i cap) := cell_of_row _ _ _ _ _ _ hh
              have r1 : ((wr.setCell ⟨w.heap.size, 0, none⟩ (.slice ao i cap)).setCell ⟨w.heap.size, 1, none⟩ (.slice ao2 j cap2)).cell? ⟨w.heap.size, 1, none⟩ = some (.slice ao2 j cap2) := cell_of_row _ _ _ _ _ _ hh
              refine bodyPost_ret (v := tyval ao i cap ao2 j cap2) (by simp [results, Try.results31, go_sem, r0, r1]) rfl ?_
              exact ⟨made_done HIN.out HJE.out (ownsRow_setCell_below (ownsRow_setCell_below HO.out (by simp) _) (by simp) _) (HRW.out.kept ((Keeps.setCell _ (by simp)).trans (Keeps.setCell _ (by simp)))) (ownsRow_setCell_below (ownsRow_setCell_below HG.out (by simp) _) (by simp) _), (HB.out.setCell (by simp) _).setCell (by simp) _⟩

end Go.Proofs.Ytgpcaofikmdpjaa
