import Derived.Test.YtaeelanbkdkppaaDoorV01
import Derived.Test.YtaeelanbkdkppaaDoorV02
import Derived.Deep.DeepCutAuto
import Derived.Test.YtaeelanbkdkppaaDoorV03
import Derived.ArgAppend
import Derived.LoopTactic
import Derived.Deep.AppendLies
/-
  Matrices of ints (slices of slices, each row in a block of its own), as functions of two places: read, set, append of a row.
  make([]int, n): a row of zeros.
-/
namespace Go.Proofs.YtaeelanbkdkppaaDoor
open Go.RowKit

def rowI (n : Nat) (f : Nat → Int) : List Int := (List.range n).map f
theorem rowI_length (n : Nat) (f : Nat → Int) : (rowI n f).length = n := by simp [rowI]
theorem rowI_getD {n j : Nat} (f : Nat → Int) (h : j < n) : (rowI n f).getD j 0 = f j := by
  rw [List.getD_eq_getElem?_getD, List.getElem?_eq_getElem (by rw [rowI_length]; exact h)]
  simp [rowI]
theorem rowI_ext {n : Nat} {f g : Nat → Int} (h : ∀ j, j < n → f j = g j) : rowI n f = rowI n g := by
  unfold rowI
  apply List.map_congr_left
  intro j hj
  exact h j (by simpa using hj)
theorem rowI_set (n : Nat) (f : Nat → Int) (j : Nat) (x : Int) : (rowI n f).set j x = rowI n (fun i => if i = j then x else f i) := by
  apply List.ext_getElem?
  intro i
  rw [List.getElem?_set]
  by_cases h : j = i
  · subst h
    by_cases hj : j < n
    · rw [if_pos rfl, if_pos (by rw [rowI_length]; exact hj), List.getElem?_eq_getElem (by rw [rowI_length]; exact hj)]
      simp [rowI]
    · rw [if_pos rfl, if_neg (by rw [rowI_length]; exact hj), List.getElem?_eq_none (by rw [rowI_length]; omega)]
  · rw [if_neg h]
    by_cases hi : i < n
    · rw [List.getElem?_eq_getElem (by rw [rowI_length]; exact hi), List.getElem?_eq_getElem (by rw [rowI_length]; exact hi)]
      simp only [rowI, List.getElem_map, List.getElem_range]
      rw [if_neg (by omega)]
    · rw [List.getElem?_eq_none (by rw [rowI_length]; omega), List.getElem?_eq_none (by rw [rowI_length]; omega)]

/-- the head of a row of n: its block and its room -/
def EHd (n : Nat) : El (Nat × Nat) := ⟨fun x => [.slice (some ⟨x.1, 0, none⟩) n x.2], 1, fun _ => rfl, fun x u hu => by simp at hu; subst hu; rfl⟩
/-- a matrix of m rows of n ints, made by the call, each row in a block of its own -/
def OwnH (hs : List (Nat × Nat)) (w : World) (base : Nat) (v : Value) (m n : Nat) (f : Nat → Nat → Int) : Prop :=
  hs.length = m ∧ OwnE (EHd n) 22 w base v hs ∧ (∀ i h, hs[i]? = some h → OwnI w base (.slice (some ⟨h.1, 0, none⟩) n h.2) (rowI n (f i))) ∧
    ∀ (i j : Nat) (h k : Nat × Nat), hs[i]? = some h → hs[j]? = some k → h.1 = k.1 → i = j
def OwnM (w : World) (base : Nat) (v : Value) (m n : Nat) (f : Nat → Nat → Int) : Prop := ∃ hs : List (Nat × Nat), OwnH hs w base v m n f
def updM (f : Nat → Nat → Int) (i j : Nat) (x : Int) : Nat → Nat → Int := fun a b => if a = i ∧ b = j then x else f a b

theorem OwnM.nil (w : World) (base n : Nat) (f : Nat → Nat → Int) : OwnM w base (.slice none 0 0) 0 n f := ⟨[], rfl, OwnE.nil _ _ _, fun i h e => by simp at e, fun i j h k e => by simp at e⟩
theorem OwnM.slice {w : World} {base m n : Nat} {v : Value} {f : Nat → Nat → Int} (h : OwnM w base v m n f) : ∃ ao cap, v = .slice ao m cap := by
  obtain ⟨hs, h1, h2, _⟩ := h
  obtain ⟨ao, cap, e⟩ := OwnE.slice h2
  exact ⟨ao, cap, by rw [e, h1]⟩
theorem OwnH.ext {hs : List (Nat × Nat)} {w : World} {base m n : Nat} {v : Value} {f g : Nat → Nat → Int} (h : OwnH hs w base v m n f) (e : ∀ i, i < m → ∀ j, j < n → f i j = g i j) : OwnH hs w base v m n g := by
  obtain ⟨h1, h2, h3, h4⟩ := h
  refine ⟨h1, h2, fun i h hi => ?_, h4⟩
  have hlt : i < m := by
    rcases Nat.lt_or_ge i m with h5 | h5
    · exact h5
    · rw [List.getElem?_eq_none (by omega)] at hi; cases hi
  rw [← rowI_ext (e i hlt)]
  exact h3 i h hi
theorem OwnM.ext {w : World} {base m n : Nat} {v : Value} {f g : Nat → Nat → Int} (h : OwnM w base v m n f) (e : ∀ i, i < m → ∀ j, j < n → f i j = g i j) : OwnM w base v m n g := h.elim fun hs h => ⟨hs, h.ext e⟩
theorem OwnH.below {hs : List (Nat × Nat)} {w w' : World} {base B m n : Nat} {v : Value} {f : Nat → Nat → Int} (h : OwnH hs w base v m n f) (hb : Below B w w') (hB : w.heap.size ≤ B) : OwnH hs w' base v m n f := by
  obtain ⟨h1, h2, h3, h4⟩ := h
  exact ⟨h1, h2.below hb hB, fun i h hi => (h3 i h hi).below hb hB, h4⟩
/-- what is kept by a store into an older block -/
theorem OwnM.kept {w w' : World} {base m n g : Nat} {v : Value} {f : Nat → Nat → Int} (h : OwnM w base v m n f) (hg : w.grownBy w' (some g)) (hl : g < base) : OwnM w' base v m n f := by
  obtain ⟨hs, h1, h2, h3, h4⟩ := h
  have hne : ∀ u : Value, (∀ k, u.ownBlock = some k → base ≤ k ∧ k < w.heap.size) → u.ownBlock = none ∨ u.ownBlock ≠ some g := by
    intro u hu
    right
    intro e
    have := (hu g e).1
    omega
  exact ⟨hs, h1, h2.kept hg (hne _ (OwnE.lt h2)), fun i h hi => (h3 i h hi).kept hg (hne _ (OwnE.lt (h3 i h hi))), h4⟩
theorem OwnM.mono {w : World} {base base' m n : Nat} {v : Value} {f : Nat → Nat → Int} (h : OwnM w base v m n f) (hb : base' ≤ base) : OwnM w base' v m n f := by
  obtain ⟨hs, h1, h2, h3, h4⟩ := h
  exact ⟨hs, h1, h2.mono hb, fun i h hi => (h3 i h hi).mono hb, h4⟩
theorem OwnM.below {w w' : World} {base B m n : Nat} {v : Value} {f : Nat → Nat → Int} (h : OwnM w base v m n f) (hb : Below B w w') (hB : w.heap.size ≤ B) : OwnM w' base v m n f := by
  obtain ⟨hs, h1, h2, h3, h4⟩ := h
  exact ⟨hs, h1, h2.below hb hB, fun i h hi => (h3 i h hi).below hb hB, h4⟩
theorem OwnM.alloc {w : World} {base m n : Nat} {v : Value} {f : Nat → Nat → Int} (h : OwnM w base v m n f) (o : Obj) : OwnM (w.alloc o) base v m n f :=
  h.below ((Below.refl _ w).alloc (Nat.le_refl _) o) (Nat.le_refl _)
theorem OwnM.lt {w : World} {base m n : Nat} {v : Value} {f : Nat → Nat → Int} (h : OwnM w base v m n f) : ∀ k, v.ownBlock = some k → base ≤ k ∧ k < w.heap.size := by
  obtain ⟨hs, h1, h2, h3, h4⟩ := h
  exact h2.lt

/-- the row at a place: where it lies, its cells, what a store into it makes -/
theorem OwnH.at {hs : List (Nat × Nat)} {w : World} {base m n : Nat} {v : Value} {f : Nat → Nat → Int} (h : OwnH hs w base v m n f) {k : Nat} (hk : k < m) :
    ∃ b c g cc, v = .slice (some ⟨b, 0, none⟩) m c ∧ b < w.heap.size ∧ base ≤ b ∧ w.cell? ⟨b, k, none⟩ = some (.slice (some ⟨g, 0, none⟩) n cc) ∧ base ≤ g ∧ (0 < n → ∃ cur, w.heap[g]? = some (.cells cur 3 (0, 0))) ∧
      (∀ j, j < n → w.cell? ⟨g, j, none⟩ = some (.int .i64 (f k j))) ∧ (∀ j, w.frozen? ⟨g, j, none⟩ = false) ∧
      (∀ j x, OwnH hs (w.setCell ⟨g, j, none⟩ (.int .i64 x)) base v m n (updM f k j x)) ∧ (∀ j x, w.grownBy (w.setCell ⟨g, j, none⟩ (.int .i64 x)) (some g)) ∧
      hs[k]? = some (g, cc) ∧ OwnI w base (.slice (some ⟨g, 0, none⟩) n cc) (rowI n (f k)) := by
  obtain ⟨h1, h2, h3, h4⟩ := h
  obtain ⟨b, c, e1, e2, e3⟩ := OwnE.pos h2 (by omega)
  obtain ⟨A, c', e4, hR⟩ := OwnE.reads h2
  rw [h1] at e1 e4
  rw [e1] at e4
  simp only [Value.slice.injEq] at e4
  obtain ⟨b', off, e5, _, e6⟩ := Reads.at hR (k := k) (by omega)
  have e7 := e6 k (by omega) 0 _ rfl
  have hg : hs[k]? = some hs[k] := List.getElem?_eq_getElem (by omega)
  generalize hs[k] = r at e7 hg
  have hrow := h3 k r hg
  have hlen : n = (rowI n (f k)).length := (rowI_length _ _).symm
  obtain ⟨eA, _⟩ := e4
  rw [← eA] at e5
  simp only [Option.some.injEq, Addr.mk.injEq] at e5
  obtain ⟨e5, e8, _⟩ := e5
  subst e5 e8
  have es : (EHd n).size = 1 := rfl
  rw [es, Nat.mul_one, Nat.add_zero, Nat.zero_add] at e7
  have hset : ∀ j x, OwnI (w.setCell ⟨r.1, j, none⟩ (.int .i64 x)) base (.slice (some ⟨r.1, 0, none⟩) n r.2) ((rowI n (f k)).set j x) ∧ w.grownBy (w.setCell ⟨r.1, j, none⟩ (.int .i64 x)) (some r.1) := fun j x => OwnI.set hlen hrow j x
  refine ⟨b, c, r.1, r.2, e1, e3, e2, e7, (OwnE.lt hrow r.1 rfl).1, fun hn => ?_, fun j hj => ?_, fun j => OwnI.free hlen hrow j, fun j x => ?_, fun j x => (hset j x).2, hg, hrow⟩
  · rcases hrow.2 with ⟨_, h5⟩ | ⟨g', cap', cur', h5, _, h6, _⟩
    · rw [rowI_length] at h5; omega
    · simp only [Value.slice.injEq, Option.some.injEq, Addr.mk.injEq] at h5
      exact ⟨cur', by rw [h5.1.1]; exact h6⟩
  · rw [OwnI.cell hlen hrow hj, rowI_getD _ hj]
  · obtain ⟨k1, k2⟩ := hset j x
    refine ⟨h1, h2.kept k2 (.inr ?_), fun i h hi => ?_, h4⟩
    · rcases own_apart (by decide) hrow h2 with h5 | h5
      · simp [Value.ownBlock] at h5
      · intro h6
        rw [h6] at h5
        exact h5 rfl
    · by_cases e : i = k
      · subst e
        rw [hg] at hi
        injection hi with hi
        subst hi
        rw [rowI_set] at k1
        rw [show rowI n (updM f i j x i) = rowI n (fun a => if a = j then x else f i a) from rowI_ext fun a _ => by simp [updM]]
        exact k1
      · rw [show rowI n (updM f k j x i) = rowI n (f i) from rowI_ext fun a _ => by simp [updM, e]]
        refine (h3 i h hi).kept k2 (.inr ?_)
        intro h6
        have : h.1 = r.1 := by simpa [Value.ownBlock] using h6
        exact e (h4 i k h r hi hg this)

theorem OwnM.at {w : World} {base m n : Nat} {v : Value} {f : Nat → Nat → Int} (h : OwnM w base v m n f) {k : Nat} (hk : k < m) :
    ∃ b c g cc, v = .slice (some ⟨b, 0, none⟩) m c ∧ b < w.heap.size ∧ base ≤ b ∧ w.cell? ⟨b, k, none⟩ = some (.slice (some ⟨g, 0, none⟩) n cc) ∧ base ≤ g ∧ (0 < n → ∃ cur, w.heap[g]? = some (.cells cur 3 (0, 0))) ∧
      (∀ j, j < n → w.cell? ⟨g, j, none⟩ = some (.int .i64 (f k j))) ∧ (∀ j, w.frozen? ⟨g, j, none⟩ = false) ∧
      (∀ j x, OwnM (w.setCell ⟨g, j, none⟩ (.int .i64 x)) base v m n (updM f k j x)) ∧ (∀ j x, w.grownBy (w.setCell ⟨g, j, none⟩ (.int .i64 x)) (some g)) := by
  obtain ⟨hs, h⟩ := h
  obtain ⟨b, c, g, cc, e1, e2, e3, e4, e5, e6, e7, e8, e9, e10, _⟩ := h.at hk
  exact ⟨b, c, g, cc, e1, e2, e3, e4, e5, e6, e7, e8, fun j x => ⟨hs, e9 j x⟩, e10⟩

end Go.Proofs.YtaeelanbkdkppaaDoor

namespace Go.Proofs.YtaeelanbkdkppaaDoor
open Go.RowKit

theorem wpList_make_I {w : World} {ops : Array Oper} {rest : List Oper} {o : Oper} {a : Act} {Q : Exit → Act → World → Prop} (hgd : o.guard = none) (l c : Operand)
    (ho : o.op = Op.makeSlice 22 l c) (base n : Nat) (L : Int) (hL : L = (n : Int)) (hl : a.eval l = .int .i64 L) (hc : a.eval c = .int .i64 L) (hn : n ≤ 1000000) (hbase : base ≤ w.heap.size)
    (hK : ∀ w', OwnI w' base (.slice (some ⟨w.heap.size, 0, none⟩) n n) (rowI n fun _ => 0) → Below w.heap.size w w' → w.heap.size < w'.heap.size → wpList Tryd.prog ops Q rest (a.put o.dst (.slice (some ⟨w.heap.size, 0, none⟩) n n)) w') : wpList Tryd.prog ops Q (o :: rest) a w := by
  obtain ⟨i0, hi, hz0, hz1, hz2⟩ := info_parts infoInt
  refine wpList_make_full w hgd l c 22 ho base 3 i0 (.int .i64 0) 1 Tryd.underlying22 hi hz0 hz1 .i64 .i64 _ _ n hl hc hL hL (by rw [hz2]; omega) (by unfold maxLen; omega) hbase ?_
  intro w' h1 h2
  have h3 : OwnI w' base (.slice (some ⟨w.heap.size, 0, none⟩) n n) (rowI n fun _ => 0) := by
    unfold OwnI OwnE
    rw [cellsE_int, rowI_length]
    have e : (madeCells (Value.int .i64 0).cells (n * 1)).toList = (rowI n fun _ => 0).map (Value.int .i64) := by
      rw [Nat.mul_one]
      refine (toList_madeCells_one _ _).trans ?_
      unfold rowI
      rw [List.map_map]
      exact (List.map_const' ..).symm ▸ by simp
    rw [e] at h1
    exact h1
  exact hK w' h3 ((Below.refl _ w).grown h2 (Nat.le_refl _) (by intro k hk; cases hk)) (OwnE.lt h3 _ rfl).2

end Go.Proofs.YtaeelanbkdkppaaDoor

/-
  slices.IndexFunc, slices.Index and slices.Contains over an array of sets; the images of choices.
-/
namespace Go.Proofs.YtaeelanbkdkppaaDoor
open Go.RowKit

/-- what IndexFunc answers -/
def idxI (p : Nat → Bool) (m : Nat) (z : Int) : Prop := (z = -1 ∧ ∀ i, i < m → p i = false) ∨ ∃ k : Nat, k < m ∧ z = (k : Int) ∧ p k = true ∧ ∀ i, i < k → p i = false

set_option maxHeartbeats 1000000 in
theorem indexFunc_any (c : Nat → Nat) (m cap g : Nat) (w : World) (hm : m ≤ 40) (hc : ∀ i, i < m → c i < 18446744073709551616) (hr : ∀ i, i < m → w.cell? ⟨g, i, none⟩ = some (.int .u64 (c i : Int))) :
    Calls Tryd.prog 96 #[.slice (some ⟨g, 0, none⟩) m cap, .func (.func 97) #[] #[]] w fun e w' => w = w' ∧ ∃ z, e = .returned (.int .i64 z) ∧ idxI (fun i => openB (c i)) m z := by
  have hm0 : (m : Int) ≤ 40 := by omega
  go_enter Tryd.func96, Tryd.ntmps96
  go_upto_region 2 with fail
  go_loopw [8] (fun v wr => ∃ i : Nat, i ≤ m ∧ v = .int .i64 (i : Int) ∧ wr = w ∧ ∀ j, j < i → openB (c j) = false) (fun v _ => m - (intOf v).toNat)
  case atStart => exact ⟨0, Nat.zero_le _, rfl, rfl, fun j h => by omega⟩
  case round =>
    obtain ⟨i, hi, rfl, rfl, hq⟩ := hrel
    have HQ := Lib.hid hq
    clear hq
    by_cases hlt : i < m
    · have ci := hr i hlt
      have i0 : (0 : Int) ≤ (i : Int) := by omega
      have i1 : (i : Int) < (m : Int) := by omega
      have i2 : ((i : Int)).toNat = i := by omega
      have HO := Lib.hid (isOpen_any (c i) (hc i hlt) wr)
      have HL := Lib.hid hlt
      have HM : Hid (m - ((i : Int) + 1).toNat < m - ((i : Int)).toNat) := Lib.hid (by omega)
      clear hr hlt
      cases ho : openB (c i)
      · rw [ho] at HO
        have HOO := Lib.hid ho
        clear ho
        go_wp2_with (go_at_call 97; refine HO.out.mono ?_; rintro e w' ⟨rfl, rfl⟩)
        go_roundw
        case rel => exact ⟨i + 1, HL.out, by go_num, trivial, fun j hj => by
          by_cases e : j = i
          · subst e; exact HOO.out
          · exact HQ.out j (by omega)⟩
        case measure => exact HM.out
      · rw [ho] at HO
        have HOO := Lib.hid ho
        clear ho
        go_wp2_with (go_at_call 97; refine HO.out.mono ?_; rintro e w' ⟨rfl, rfl⟩)
        go_ret
        exact ⟨rfl, _, rfl, .inr ⟨i, HL.out, rfl, HOO.out, HQ.out⟩⟩
    · obtain rfl : i = m := by omega
      clear hr
      go_wp2_with fail
      go_ret
      exact ⟨rfl, _, rfl, .inl ⟨rfl, HQ.out⟩⟩

set_option maxHeartbeats 1000000 in
theorem index_any (c : Nat → Nat) (m cap g : Nat) (w : World) (hm : m ≤ 40) (hr : ∀ i, i < m → w.cell? ⟨g, i, none⟩ = some (.int .u64 (c i : Int))) :
    Calls Tryd.prog 92 #[.slice (some ⟨g, 0, none⟩) m cap, .int .u64 0] w fun e w' => w = w' ∧ ∃ z, e = .returned (.int .i64 z) ∧ idxI (fun i => c i == 0) m z := by
  have hm0 : (m : Int) ≤ 40 := by omega
  go_enter Tryd.func92, Tryd.ntmps92
  go_upto_region 2 with fail
  go_loopw [8] (fun v wr => ∃ i : Nat, i ≤ m ∧ v = .int .i64 (i : Int) ∧ wr = w ∧ ∀ j, j < i → (c j == 0) = false) (fun v _ => m - (intOf v).toNat)
  case atStart => exact ⟨0, Nat.zero_le _, rfl, rfl, fun j h => by omega⟩
  case round =>
    obtain ⟨i, hi, rfl, rfl, hq⟩ := hrel
    have HQ := Lib.hid hq
    clear hq
    by_cases hlt : i < m
    · have ci := hr i hlt
      have i0 : (0 : Int) ≤ (i : Int) := by omega
      have i1 : (i : Int) < (m : Int) := by omega
      have i2 : ((i : Int)).toNat = i := by omega
      have HL := Lib.hid hlt
      have HM : Hid (m - ((i : Int) + 1).toNat < m - ((i : Int)).toNat) := Lib.hid (by omega)
      clear hr hlt
      by_cases h0 : c i = 0
      · have HOO : Hid ((c i == 0) = true) := Lib.hid (by simp [h0])
        have ci2 : wr.cell? ⟨g, i, none⟩ = some (.int .u64 0) := by rw [ci, h0]; rfl
        have t1 : ((0 : Int) == 0) = true := rfl
        clear ci h0
        go_wp2_with fail
        go_ret
        exact ⟨rfl, _, rfl, .inr ⟨i, HL.out, rfl, HOO.out, HQ.out⟩⟩
      · have HOO : Hid ((c i == 0) = false) := Lib.hid (by simp [h0])
        have t1 : ((0 : Int) == ((c i : Nat) : Int)) = false := by simp; omega
        clear h0
        go_wp2_with fail
        go_roundw
        case rel => exact ⟨i + 1, HL.out, by go_num, trivial, fun j hj => by
          by_cases e : j = i
          · subst e; exact HOO.out
          · exact HQ.out j (by omega)⟩
        case measure => exact HM.out
    · obtain rfl : i = m := by omega
      clear hr
      go_wp2_with fail
      go_ret
      exact ⟨rfl, _, rfl, .inl ⟨rfl, HQ.out⟩⟩
theorem contains_any (c : Nat → Nat) (m cap g : Nat) (w : World) (hm : m ≤ 40) (hr : ∀ i, i < m → w.cell? ⟨g, i, none⟩ = some (.int .u64 (c i : Int))) :
    Calls Tryd.prog 79 #[.slice (some ⟨g, 0, none⟩) m cap, .int .u64 0] w fun e w' => w = w' ∧ ∃ b : Bool, e = .returned (.bool b) ∧ (b = true ↔ ∃ i, i < m ∧ c i = 0) := by
  have HX := Lib.hid (index_any c m cap g w hm hr)
  clear hr
  go_enter Tryd.func79, Tryd.ntmps79
  go_wp2_with (go_at_call 92; refine HX.out.mono ?_; rintro e w' ⟨rfl, z, rfl, hz⟩)
  go_ret
  refine ⟨rfl, _, rfl, ?_⟩
  rw [decide_eq_true_iff]
  rcases hz with ⟨rfl, h⟩ | ⟨k, hk, rfl, h1, _⟩
  · refine ⟨fun h2 => by omega, ?_⟩
    rintro ⟨i, hi, h0⟩
    have := h i hi
    simp [h0] at this
  · exact ⟨fun _ => ⟨k, hk, by simpa using h1⟩, fun _ => by omega⟩

end Go.Proofs.YtaeelanbkdkppaaDoor

/-
  The program's search: all solutions of choices, handed over in their order.
-/
namespace Go.Proofs.YtaeelanbkdkppaaDoor
open Go.RowKit Go.Shelf

attribute [local go_sem] Oper.semAt_some

/-- what the search relies on -/
structure Env (n : Nat) (ls : List Lk) (fb g : Nat) (A : Option Addr) (cap yb nb : Nat) (yv : Value) (V : World) : Prop where
  pos : 0 < V.heap.size
  tab : TabW V
  fin : FinAt V fb g A cap ls
  y : Boxed V yb 72 yv
  nn : Boxed V nb 3 (.int .i64 (n : Int))
/-- the rounds hold none of it -/
structure Apart (ls : List Lk) (fb g yb nb : Nat) (H : Blks) : Prop where
  z : ¬ H 0
  fb : ¬ H fb
  yb : ¬ H yb
  nb : ¬ H nb
  g : 0 < ls.length → ¬ H g
theorem Env.keep {n : Nat} {ls : List Lk} {fb g : Nat} {A : Option Addr} {cap yb nb : Nat} {yv : Value} {V V' : World} (h : Env n ls fb g A cap yb nb yv V) {K : Blks} (hk : Keeps K V V') (hF : FinAt V' fb g A cap ls) (h0 : ¬ K 0) (h1 : ¬ K yb) (h2 : ¬ K nb) : Env n ls fb g A cap yb nb yv V' :=
  ⟨Nat.lt_of_lt_of_le h.pos hk.size, h.tab.up (hk.block 0 h.pos h0), hF, (hk.block yb h.y.lt h1).trans h.y, (hk.block nb h.nn.lt h2).trans h.nn⟩
theorem Env.below {n : Nat} {ls : List Lk} {fb g : Nat} {A : Option Addr} {cap yb nb : Nat} {yv : Value} {V V' : World} (h : Env n ls fb g A cap yb nb yv V) (hb : Below V.heap.size V V') : Env n ls fb g A cap yb nb yv V' :=
  h.keep (Keeps.of_below' (fun _ => False) hb) (h.fin.below hb) id id id
/-- how a search ends, from the world V with the rounds' blocks H -/
def WEnd (X : Blks) (ls : List Lk) (fb g : Nat) (A : Option Addr) (cap : Nat) (H : Blks) (V : World) (Jd Jx : Blks → World → Prop) (e : Ending) (V' : World) : Prop :=
  Keeps (fun b => H b ∨ X b) V V' ∧ FinAt V' fb g A cap ls ∧ ∃ (H' : Blks) (b : Bool), e = .returned (.bool b) ∧ (∀ i, H' i → H i ∨ V.heap.size ≤ i) ∧ (b = true → Jd H' V') ∧ (b = false → Jx H' V')
def isG (ls : List Lk) (g : Nat) : Blks := fun b => b = g ∧ 0 < ls.length

/-- the blocks of a round of the search: those of the rounds above, the result's box, the links -/
def WI (W1 : World) (rb : Nat) (ls : List Lk) (fb g : Nat) (A : Option Addr) (cap : Nat) (H : Blks) (Jp : Blks → World → Prop) (Hh : Blks) (V : World) : Prop :=
  ∃ Hj : Blks, (∀ b, Hh b ↔ Hj b ∨ b = rb ∨ isG ls g b) ∧ Jp Hj V ∧ (∀ b, Hj b → H b ∨ W1.heap.size ≤ b) ∧ W1.heap.size ≤ V.heap.size ∧ FinAt V fb g A cap ls ∧ Boxed V rb 4 (.bool false) ∧
    ∀ b, b < W1.heap.size → ¬ H b → b ≠ rb → ¬ isG ls g b → V.heap[b]? = W1.heap[b]?
theorem WI.foot {W1 : World} {rb : Nat} {ls : List Lk} {fb g : Nat} {A : Option Addr} {cap : Nat} {H : Blks} {Jp : Blks → World → Prop} {B : Nat} (hJ : Foot (fun b => b < B) Jp) (hB : B ≤ W1.heap.size) (hrb : rb < W1.heap.size) (hfb : fb < W1.heap.size) :
    Foot (fun b => b < W1.heap.size) (WI W1 rb ls fb g A cap H Jp) := by
  rintro Hh V ⟨Hj, h1, h2, h3, h4, h5, h6, h7⟩
  refine ⟨fun b hb => ?_, fun V' hs hb => ⟨Hj, h1, hJ.keep h2 hs fun b h => hb b (h.elim (fun h => .inl ((h1 b).2 (.inl h))) (fun h => .inr (by omega))), h3, by omega, h5.up hs (hb fb (.inr hfb)) (fun h => hb g (.inl ((h1 g).2 (.inr (.inr ⟨rfl, h⟩))))), (hb rb (.inr hrb)).trans h6, fun b hl n1 n2 n3 => (hb b (.inr hl)).trans (h7 b hl n1 n2 n3)⟩⟩
  rcases (h1 b).1 hb with h | h | h
  · exact hJ.lt h2 h
  · omega
  · rw [h.1]; exact (h5.at_ 0 h.2).2.1
theorem one_bit {x : Nat} (hx : x < 1099511627776) (h0 : x ≠ 0) (ho : openB x = false) : ∃ v, bitsOf x = [v] := by
  have h1 : ¬ 1 < (bitsOf x).length := of_decide_eq_false ho
  have h2 : bitsOf x ≠ [] := fun e => h0 ((bitsOf_eq_nil (by omega)).1 e)
  match hq : bitsOf x with
  | [] => exact absurd hq h2
  | [v] => exact ⟨v, rfl⟩
  | a :: b :: r => rw [hq] at h1; simp at h1
def solsOf (n : Nat) (ls : List Lk) (c : Choices) (node : Nat) (vs : List Nat) : List (List Int) := vs.flatMap fun v => solL n ls (upd c node (sh v))
theorem solsOf_pre {n : Nat} {ls : List Lk} {c : Choices} {node : Nat} {vs us : List Nat} (h : vs <+: us) : solsOf n ls c node vs <+: solsOf n ls c node us := by
  obtain ⟨t, rfl⟩ := h
  exact ⟨solsOf n ls c node t, by simp [solsOf]⟩
theorem solsOf_snoc (n : Nat) (ls : List Lk) (c : Choices) (node : Nat) (vs : List Nat) (v : Nat) : solsOf n ls c node (vs ++ [v]) = solsOf n ls c node vs ++ solL n ls (upd c node (sh v)) := by simp [solsOf]

/-- the end of a search: its own blocks are written, no one else's -/
theorem walk_end {w W1 w3 Wf : World} {H H' : Blks} {ls : List Lk} {fb g : Nat} {A : Option Addr} {cap rb D B : Nat} (hbw : Below w.heap.size w W1) (hrb : w.heap.size ≤ rb) (hD : w.heap.size ≤ D) (hB : B ≤ w.heap.size)
    (hk : Keeps (fun b => H b ∨ isG ls g b) W1 w3) (hz : Keeps (fun b => b = rb ∨ b = D) w3 Wf) (hF : FinAt w3 fb g A cap ls) (hfb : fb < w.heap.size) (hg : 0 < ls.length → g < w.heap.size)
    (hH : ∀ i, H' i → H i ∨ W1.heap.size ≤ i) (n1 : ¬ H' rb) (n2 : ¬ H' D) :
    Keeps (fun b => H b ∨ isG ls g b) w Wf ∧ FinAt Wf fb g A cap ls ∧ (∀ i, H' i → H i ∨ w.heap.size ≤ i) ∧ ∀ Jp : Blks → World → Prop, Foot (fun b => b < B) Jp → Jp H' w3 → Jp H' Wf := by
  have hs := hbw.size
  have hs3 := hk.size
  refine ⟨keeps_fin hbw hk (fun b h _ => h) hrb hD hz, hF.up hz.size (hz.block _ hF.lt (fun h => by omega)) (fun h => hz.block _ (hF.at_ 0 h).2.1 (fun h2 => by have := hg h; omega)), fun i hi => (hH i hi).imp id (fun h => by omega), fun Jp hJ hj => hJ.keep hj hz.size fun b hb => ?_⟩
  rcases hb with hb | hb
  · exact hz.block b (hJ.lt hj hb) (fun h => h.elim (fun h => n1 (h ▸ hb)) (fun h => n2 (h ▸ hb)))
  · exact hz.block b (by omega) (fun h => by omega)

theorem wpListIn_load_chg {F : Fence} {n : Nat} {ops : Array Oper} {rest : List Oper} {op : Oper} {a : Act} {w : World} {Q : Exit → Act → World → Prop} (hw : Region.wanted op (yielded ops a.tmps) = true) (x : Operand) (ho : op.op = .load 108 x)
    (b : Nat) (c : Chs) (hx : a.eval x = .pointer (some ⟨b, 0, none⟩)) (hc : w.rangeAt b 0 (chL c))
    (h : wpListIn F n Tryd.prog ops Q rest (a.put op.dst (.agg (chA c))) w) : wpListIn F n Tryd.prog ops Q (op :: rest) a w := by
  refine wpListIn_step fun K hK' => ?_
  rw [if_pos hw]
  have hrun := run_loadAt_mid (P := Tryd.prog) w b 0 108 (chL c) _ hc Tryd.underlying108 rfl (by rw [chL_length]; exact infoCh)
  unfold Oper.wpIn
  refine ⟨by simp [Oper.about, ho], ?_⟩
  rw [Oper.semAt_plain F _ _ (by rw [ho]; intro c hc'; cases hc')]
  simp [execOp, ho, hx, hrun, Result.andThen]
  exact hK' _ _ h
theorem Sub.size_le {c d : Choices} (h : Sub c d) : sizeC c ≤ sizeC d := sum_le h.le

/-- a round of the search, from its world U with the loop marked busy -/
theorem WI.next {W1 : World} {rb : Nat} {ls : List Lk} {fb g : Nat} {A : Option Addr} {cap : Nat} {H Hh G Hj H' : Blks} {Jq : Blks → World → Prop} {U Wf : World}
    (h1 : ∀ b, Hh b ↔ Hj b ∨ b = rb ∨ isG ls g b) (h3 : ∀ b, Hj b → H b ∨ W1.heap.size ≤ b) (h4 : W1.heap.size ≤ U.heap.size)
    (h7 : ∀ b, b < W1.heap.size → ¬ H b → b ≠ rb → ¬ isG ls g b → U.heap[b]? = W1.heap[b]?)
    (hk : Keeps (fun b => Hj b ∨ isG ls g b ∨ b = rb) U Wf) (hF : FinAt Wf fb g A cap ls) (hr : Boxed Wf rb 4 (.bool false)) (hg : ∀ i, H' i → Hj i ∨ U.heap.size ≤ i) (hj : Jq H' Wf) :
    Keeps (fun b => Hh b ∨ G b) U Wf ∧ ∃ H2, (∀ b, H2 b → (Hh b ∨ G b) ∨ U.heap.size ≤ b) ∧ WI W1 rb ls fb g A cap H Jq H2 Wf := by
  refine ⟨hk.mono fun i _ h => .inl ((h1 i).2 (h.imp id fun h => h.symm)), fun b => H' b ∨ b = rb ∨ isG ls g b, fun b h => ?_, H', fun _ => Iff.rfl, hj, fun b h => ?_, Nat.le_trans h4 hk.size, hF, hr, fun b hb n1 n2 n3 => ?_⟩
  · rcases h with h | h
    · exact (hg b h).imp (fun h => .inl ((h1 b).2 (.inl h))) id
    · exact .inl (.inl ((h1 b).2 (.inr h)))
  · rcases hg b h with h | h
    · exact h3 b h
    · exact .inr (by omega)
  · refine (hk.block b (by omega) fun h => ?_).trans (h7 b hb n1 n2 n3)
    rcases h with h | h | h
    · exact (h3 b h).elim n1 (fun h => by omega)
    · exact n3 h
    · exact n2 h

set_option maxRecDepth 100000 in
set_option maxHeartbeats 4000000 in
theorem walk_of (n : Nat) (hn : n ≤ 40) (ls : List Lk) (hls : LsOk n ls) (hll : ls.length ≤ 1000) (fb g : Nat) (A : Option Addr) (cap : Nat) (hg0 : g ≠ 0) (yb nb : Nat) (yv : Value) (B : Nat) (J : List (List Int) → Blks → World → Prop) (Jx : Blks → World → Prop)
    (hJ : ∀ pre, Foot (fun b => b < B) (J pre)) (hJx : Foot (fun b => b < B) Jx) (hgB : 0 < ls.length → B ≤ g ∧ g ≠ yb ∧ g ≠ nb) (xs : List (List Int))
    (hY : ∀ pre c H V, Small c → (∀ i, i < n → c i ≠ 0) → pre ++ [imgs n c] <+: xs → J pre H V → Env n ls fb g A cap yb nb yv V → B ≤ V.heap.size → Apart ls fb g yb nb H →
      Calls Tryd.prog 83 #[.agg (chA c), .pointer (some ⟨yb, 0, none⟩), .pointer (some ⟨nb, 0, none⟩)] V (WEnd (fun _ => False) ls fb g A cap H V (J (pre ++ [imgs n c])) Jx))
    (c : Choices) (hc : Small c) (hst : Stable ls c) (hfu : ∀ i, i < n → c i ≠ 0) (hhi : ∀ i, n ≤ i → c i = 0)
    (IH : ∀ d, sizeC d < sizeC c → Small d → Stable ls d → (∀ i, i < n → d i ≠ 0) → (∀ i, n ≤ i → d i = 0) → ∀ pre H V, pre ++ solL n ls d <+: xs → J pre H V → Env n ls fb g A cap yb nb yv V → B ≤ V.heap.size → Apart ls fb g yb nb H →
      Calls Tryd.prog 82 #[.pointer (some ⟨fb, 0, none⟩), .agg (chA d), .func (.func 83) #[] #[.pointer (some ⟨yb, 0, none⟩), .pointer (some ⟨nb, 0, none⟩)]] V (WEnd (isG ls g) ls fb g A cap H V (J (pre ++ solL n ls d)) Jx))
    (pre : List (List Int)) (H : Blks) (w : World) (hxs : pre ++ solL n ls c <+: xs) (hj : J pre H w) (hE : Env n ls fb g A cap yb nb yv w) (hBw : B ≤ w.heap.size) (hA : Apart ls fb g yb nb H) :
    Calls Tryd.prog 82 #[.pointer (some ⟨fb, 0, none⟩), .agg (chA c), .func (.func 83) #[] #[.pointer (some ⟨yb, 0, none⟩), .pointer (some ⟨nb, 0, none⟩)]] w (WEnd (isG ls g) ls fb g A cap H w (J (pre ++ solL n ls c)) Jx) := by
  refine (callsIn_wide (n := 6)).1 ?_
  refine callsIn_of_wp_marks Tryd.func82 rfl trivial ?_ rfl
  simp only [Tryd.ntmps82, List.size_toArray, List.length_cons, List.length_nil, Nat.reduceAdd, Nat.reduceSub, Array.replicate_succ, Array.replicate_zero, List.push_toArray, List.append_toArray, List.nil_append, List.cons_append]
  gi_upto_region 1 with fail
  generalize hW0 : (((w.alloc _).alloc _).alloc _).alloc _ = W0
  have hB : Below w.heap.size w W0 := by
    rw [← hW0]
    refine Below.alloc (Below.alloc (Below.alloc (Below.alloc (Below.refl _ _) ?_ _) ?_ _) ?_ _) ?_ _ <;> simp <;> omega
  have hs : W0.heap.size = w.heap.size + 4 := by rw [← hW0]; simp
  have b3 : Boxed W0 w.heap.size 112 (.pointer (some ⟨fb, 0, none⟩)) := by rw [← hW0]; simp only [Boxed, at_alloc, size_alloc]; repeat (first | rfl | (split; · (first | rfl | omega)))
  have b4 : ChAt W0 108 (w.heap.size + 1) c := by rw [← hW0]; simp only [ChAt, at_alloc, size_alloc]; repeat (first | rfl | (split; · (first | rfl | omega)))
  have b5 : Boxed W0 (w.heap.size + 1 + 1) 117 (.func (.func 83) #[] #[.pointer (some ⟨yb, 0, none⟩), .pointer (some ⟨nb, 0, none⟩)]) := by rw [← hW0]; simp only [Boxed, at_alloc, size_alloc]; repeat (first | rfl | (split; · (first | rfl | omega)))
  have b6 : Boxed W0 (w.heap.size + 1 + 1 + 1) 4 (.bool false) := by rw [← hW0]; simp only [Boxed, at_alloc, size_alloc]; repeat (first | rfl | (split; · (first | rfl | omega)))
  have HB := Lib.hid hB
  have HB3 := Lib.hid b3
  have HB4 := Lib.hid b4
  have HB5 := Lib.hid b5
  have HB6 := Lib.hid b6
  have HIX := Lib.hid (indexFunc_any c 40 40 (w.heap.size + 1) W0 (Nat.le_refl _) (fun i _ => by have := hc i; omega) (fun i hi => b4.cell hi))
  clear hW0 hB b3 b4 b5 b6
  gi_upto_region 2 with (refine ⟨trivial, ?_⟩; gi_at_call 96; refine (callsIn_wide.2 HIX.out).mono ?_; rintro e w1 ⟨rfl, z, rfl, hz⟩)
  have hs4 : w.heap.size + 4 = W0.heap.size := hs.symm
  obtain ⟨rb, hrb⟩ : ∃ rb, rb = w.heap.size + 1 + 1 + 1 := ⟨_, rfl⟩
  generalize hW1 : W0.alloc _ = W1
  have hB1 : Below W0.heap.size W0 W1 := by rw [← hW1]; exact (Below.refl _ _).alloc (Nat.le_refl _) _
  have c7 : Boxed W1 (w.heap.size + 4) 3 (.int .i64 z) := by rw [← hW1, hs4]; exact Boxed.new W0 _ _
  have c3 := heap_upb hB1 HB3.out (by omega)
  have c4 : ChAt W1 108 (w.heap.size + 1) c := heap_upb hB1 HB4.out (by omega)
  have c5 := heap_upb hB1 HB5.out (by omega)
  have c6 : Boxed W1 rb 4 (.bool false) := by rw [hrb]; exact heap_upb hB1 HB6.out (by omega)
  rw [← hrb]
  have HBW : Hid (Below w.heap.size w W1) := Lib.hid (HB.out.trans (hB1.mono (by omega)))
  have HE1 := Lib.hid (hE.below HBW.out)
  have HJ1 := Lib.hid ((hJ pre).below hj (fun b hb => Nat.lt_of_lt_of_le hb hBw) HBW.out)
  have HH := Lib.hid (fun b (hb : H b) => (hJ pre).lt hj hb)
  have HRB := Lib.hid hrb
  have HC3 : Hid (Boxed W1 w.heap.size 112 (.pointer (some ⟨fb, 0, none⟩))) := Lib.hid c3
  have HC4 := Lib.hid c4
  have HC5 : Hid (Boxed W1 (w.heap.size + 1 + 1) 117 (.func (.func 83) #[] #[.pointer (some ⟨yb, 0, none⟩), .pointer (some ⟨nb, 0, none⟩)])) := Lib.hid c5
  have HC6 := Lib.hid c6
  have HC7 := Lib.hid c7
  have HA := Lib.hid hA
  have hfb := hE.fin.lt
  have hyb := hE.y.lt
  have hnb := hE.nn.lt
  have HGW : Hid (0 < ls.length → g < w.heap.size) := Lib.hid fun h => (hE.fin.at_ 0 h).2.1
  have HS0 := Lib.hid hs
  clear hW1 hB1 hE hj hA hs4 hs hrb
  have d3 := HC3.out.cell
  have d5 := HC5.out.cell
  have d7 := c7.cell
  clear c3 c5 c6 c7
  rcases hz with ⟨rfl, hcl⟩ | ⟨node, hn40, rfl, hop, hfirst⟩
  · have hone : ∀ i, i < n → ∃ v, bitsOf (c i) = [v] := fun i hi => one_bit (hc i) (hfu i hi) (hcl i (by omega))
    have hsol := solL_leaf hc (fun L hL => ⟨(hls L hL).1, (hls L hL).2.1⟩) hone hst
    have HYC := Lib.hid (hY pre c H W1 hc hfu (hsol ▸ hxs) HJ1.out HE1.out (by have := HBW.out.size; omega) HA.out)
    have HSOL := Lib.hid hsol
    clear hone hsol
    gi_wp2_with (first | (with_reducible refine wpListIn_load_ch rfl _ rfl (w.heap.size + 1) c rfl HC4.out.range ?_) | (refine ⟨trivial, ?_⟩; gi_at_call 83; refine (callsIn_wide.2 HYC.out).mono ?_; rintro e w3 ⟨hk, hF3, H', b, rfl, hg, h1, h2⟩; have q6 : Boxed w3 rb 4 (.bool false) := (hk.block _ HC6.out.lt (fun h => h.elim (fun h => by have := HH.out _ h; have := HRB.out; omega) id)).trans HC6.out; have q6c := q6.cell; have q6f := q6.frozen))
    have hr0 := HRB.out
    have hnr : ¬ H' rb := fun h => (hg rb h).elim (fun h => by have := HH.out _ h; omega) (fun h => by have := HC6.out.lt; omega)
    obtain ⟨e1, e2, e3, e4⟩ := walk_end (A := A) (cap := cap) (rb := rb) (D := rb) (B := B) HBW.out (by omega) (by omega) hBw (hk.mono fun i _ h => h.elim .inl (fun h => h.elim)) (keeps_setCell (H := fun b => b = rb ∨ b = rb) w3 ⟨rb, 0, none⟩ (.bool b) (.inl rfl)) hF3 hfb HGW.out hg hnr hnr
    refine ⟨_, results_bool rfl _ _ rb b rfl (q6.set (.bool b)), e1, e2, H', b, rfl, e3, fun hb => ?_, fun hb => e4 _ hJx (h2 hb)⟩
    rw [HSOL.out]
    exact e4 _ (hJ _) (h1 hb)
  · have hnn : node < n := by
      rcases Nat.lt_or_ge node n with h | h
      · exact h
      · have := of_decide_eq_true (p := 1 < (bitsOf (c node)).length) hop
        rw [hhi node h, bitsOf_zero] at this
        simp at this
    have hone : ∀ i, i < node → ∃ v, bitsOf (c i) = [v] := fun i hi => one_bit (hc i) (hfu i (by omega)) (hfirst i hi)
    have HSOL : Hid (solL n ls c = solsOf n ls c node (bitsOf (c node))) := Lib.hid (solL_settle hc hnn hone)
    have cn := c4.cell hn40
    have n0 : (0 : Int) ≤ (node : Int) := by omega
    have n1 : (node : Int) < 40 := by omega
    have n2 : ((node : Int)).toNat = node := by omega
    clear c4 hone
    gi_wp2
    have hE1 := HE1.out
    have hA := HA.out
    have hJ1 := HJ1.out
    have hsz1 : w.heap.size ≤ W1.heap.size := HBW.out.size
    have hrb := HRB.out
    have hl7 := HC7.out.lt
    have hHlt := HH.out
    have hgw := HGW.out
    have hrb1 : rb < W1.heap.size := by omega
    refine wpIn_visits (gf := 98) (ba := #[.int .u64 (c node : Int)]) (lb := #[]) rfl (enters_of Tryd.func98 (by kernel_rfl) rfl) (all_visits (c node) (by have := hc node; omega) W1 hE1.pos hE1.tab) (fun x G V vs h => by rw [h.2]; rfl)
      (fun pre' Hh V => WI W1 rb ls fb g A cap H (J (pre ++ solsOf n ls c node pre')) Hh V)
      (fun code Hh V => IsRet code ∧ WI W1 rb ls fb g A cap H Jx Hh V)
      ?fI ?fX (fun b => H b ∨ b = rb ∨ isG ls g b) ⟨H, fun _ => Iff.rfl, by simpa [solsOf] using hJ1, fun _ h => .inl h, Nat.le_refl _, hE1.fin, HC6.out, fun _ _ _ _ _ => rfl⟩ ?hO ?round ?done ?stop
    case fI => exact fun pre' => WI.foot (hJ _) (Nat.le_trans hBw hsz1) hrb1 (by omega)
    case fX => exact fun _ => (WI.foot hJx (Nat.le_trans hBw hsz1) hrb1 (by omega)).pure _
    case hO =>
      rintro b rfl
      exact ⟨fun h => h.elim hA.z (fun h => h.elim (fun h => by omega) (fun h => hg0 h.1.symm)), hE1.pos⟩
    case round =>
      rintro l pre' x Hh G vs V K hl ⟨r, hr⟩ hHl hGl ⟨Hj, i1, i2, i3, i4, i5, i6, i7⟩ hx ⟨hG0, rfl⟩ hGa hK
      have hx0 := hx
      have hx := pre_mem hx
      dsimp only
      clear hrb
      gi_wp2
      have hrb := HRB.out
      refine hK _ _ (Keeps.refl _ _) fun r => ?_
      have hh : ∀ b, b < W1.heap.size → (V.putObj l (.loop r)).heap[b]? = V.heap[b]? := fun b hb => World.putObj_heap_other (by omega)
      have oth : ∀ b, b < W1.heap.size → ¬ H b → b ≠ rb → ¬ isG ls g b → (V.putObj l (.loop r)).heap[b]? = W1.heap[b]? := fun b hb h1 h2 h3 => (hh b hb).trans (i7 b hb h1 h2 h3)
      have own : ∀ b, w.heap.size ≤ b → b < W1.heap.size → b ≠ rb → (V.putObj l (.loop r)).heap[b]? = W1.heap[b]? := fun b h1 h2 h3 => oth b h2 (fun h => by have := hHlt b h; omega) h3 (fun h => by have := hgw h.2; have := h.1; omega)
      have k3 : Boxed (V.putObj l (.loop r)) w.heap.size 112 (.pointer (some ⟨fb, 0, none⟩)) := (own _ (Nat.le_refl _) HC3.out.lt (by omega)).trans HC3.out
      have k4 : ChAt (V.putObj l (.loop r)) 108 (w.heap.size + 1) c := (own _ (by omega) HC4.out.lt (by omega)).trans HC4.out
      have k5 : Boxed (V.putObj l (.loop r)) (w.heap.size + 1 + 1) 117 (.func (.func 83) #[] #[.pointer (some ⟨yb, 0, none⟩), .pointer (some ⟨nb, 0, none⟩)]) := (own _ (by omega) HC5.out.lt (by omega)).trans HC5.out
      have k7 : Boxed (V.putObj l (.loop r)) (w.heap.size + 4) 3 (.int .i64 (node : Int)) := (own _ (by omega) hl7 (by omega)).trans HC7.out
      have k6 : Boxed (V.putObj l (.loop r)) rb 4 (.bool false) := (hh _ hrb1).trans i6
      have kF : FinAt (V.putObj l (.loop r)) fb g A cap ls := i5.up (by simp) (hh _ (by omega)) (fun h => hh _ (by have := hgw h; omega))
      have kE : Env n ls fb g A cap yb nb yv (V.putObj l (.loop r)) := by
        refine ⟨by have := hE1.pos; simp; omega, hE1.tab.up (oth 0 hE1.pos hA.z (by omega) (fun h => hg0 h.1.symm)), kF, ?_, ?_⟩
        · exact (oth yb hE1.y.lt hA.yb (by omega) (fun h => (hgB h.2).2.1 h.1.symm)).trans hE1.y
        · exact (oth nb hE1.nn.lt hA.nb (by omega) (fun h => (hgB h.2).2.2 h.1.symm)).trans hE1.nn
      have kJ : J (pre ++ solsOf n ls c node pre') Hj (V.putObj l (.loop r)) := (hJ _).keep i2 (by simp) fun b hb => World.putObj_heap_other fun e => hb.elim (fun h => hHl ((i1 l).2 (.inl (e ▸ h)))) (fun h => by omega)
      have kA : Apart ls fb g yb nb Hj := ⟨fun h => (i3 _ h).elim hA.z (fun h => by have := hE1.pos; omega), fun h => (i3 _ h).elim hA.fb (fun h => by omega), fun h => (i3 _ h).elim hA.yb (fun h => by omega), fun h => (i3 _ h).elim hA.nb (fun h => by omega), fun hp h => (i3 _ h).elim (hA.g hp) (fun h => by have := hgw hp; omega)⟩
      have kr : ¬ Hj rb := fun h => (i3 _ h).elim (fun h => by have := hHlt _ h; omega) (fun h => by omega)
      have hsz : V.heap.size = (V.putObj l (.loop r)).heap.size := by simp
      rw [hsz] at i4 ⊢
      generalize V.putObj l (.loop r) = U at *
      have HK3 := Lib.hid k3
      have HK4 := Lib.hid k4
      have HK5 := Lib.hid k5
      have HK6 := Lib.hid k6
      have HK7 := Lib.hid k7
      have HKF := Lib.hid kF
      have HKE := Lib.hid kE
      have HKJ := Lib.hid kJ
      have HKA := Lib.hid kA
      have HKR := Lib.hid kr
      have HI1 := Lib.hid i1
      have HI3 := Lib.hid i3
      have HI4 := Lib.hid i4
      have HOTH := Lib.hid oth
      have hx40 := bits40 (hc node) hx
      have HSL := Lib.hid (settle_any n hn ls hls hll c hc fb g A cap hg0 node x hn40 hx40 U kE.pos kE.tab kF)
      have HSZ := Lib.hid (settle_size hc hn40 hx hop)
      have HIN : Hid ((pre ++ solsOf n ls c node pre') ++ solL n ls (upd c node (sh x)) <+: xs) := Lib.hid (by
        rw [List.append_assoc, ← solsOf_snoc]
        exact (List.prefix_append_right_inj pre |>.2 (solsOf_pre hx0)).trans (HSOL.out ▸ hxs))
      have HX := Lib.hid hx40
      have HRB1 := Lib.hid hrb1
      have f3 := k3.cell
      have f5 := k5.cell
      have f7 := k7.cell
      clear hr hHl hGl i1 i2 i3 i4 i5 i6 i7 hK hh oth own k3 k4 k5 k6 k7 kF kE kJ kA kr hsz hx hx0 cn hE1 hA hJ1 hsz1 hrb hHlt hgw hrb1 hl7 d3 d5 d7 hG0 hGa hx40 hl
      gi_upto_region 7 with (first | (simp only [ch_zero]) | (with_reducible refine wpListIn_load_ch rfl _ rfl (w.heap.size + 1) c rfl HK4.out.range ?_) | (refine ⟨trivial, ?_⟩; gi_at_call 99; refine (CallsIn.inRound l (callsIn_wide.2 HSL.out)).mono ?_; rintro e w3 ⟨c', b, rfl, hk3, hF3, hs3, ht3, hf3⟩) | (with_reducible refine wpListIn_store_chn rfl _ _ rfl w3.heap.size c' (fun _ => 0) rfl rfl rfl ?_))
      have hs34 : U.heap.size ≤ w3.heap.size := hk3.size
      have n4 : ChAt (w3.alloc (.cells (chA c') 108)) 108 w3.heap.size c' := ChAt.new w3 _ _
      have hkA : Keeps (isG ls g) U (w3.alloc (.cells (chA c') 108)) := (hk3.mono (K := isG ls g) fun i _ h => h).trans (keeps_alloc _ w3 _) fun _ _ h => h
      have hFA : FinAt (w3.alloc (.cells (chA c') 108)) fb g A cap ls := hF3.below ((Below.refl _ w3).alloc (Nat.le_refl _) _)
      have hsA : (w3.alloc (.cells (chA c') 108)).heap.size = w3.heap.size + 1 := by simp
      generalize w3.alloc (.cells (chA c') 108) = W4 at *
      have hUl : ∀ b, w.heap.size ≤ b → b < U.heap.size → W4.heap[b]? = U.heap[b]? := fun b h1 h2 => hkA.block b h2 (fun h => by have := HGW.out h.2; have := h.1; omega)
      have q3 : Boxed W4 w.heap.size 112 (.pointer (some ⟨fb, 0, none⟩)) := (hUl _ (by omega) HK3.out.lt).trans HK3.out
      have q5 : Boxed W4 (w.heap.size + 1 + 1) 117 (.func (.func 83) #[] #[.pointer (some ⟨yb, 0, none⟩), .pointer (some ⟨nb, 0, none⟩)]) := (hUl _ (by omega) HK5.out.lt).trans HK5.out
      have q6 : Boxed W4 rb 4 (.bool false) := (hUl _ (by have := HRB.out; omega) HK6.out.lt).trans HK6.out
      have hBU : B ≤ U.heap.size := by have := HBW.out.size; have := HI4.out; omega
      have qJ : J (pre ++ solsOf n ls c node pre') Hj W4 := (hJ _).keep HKJ.out hkA.size fun b hb => hkA.block b (hb.elim (fun h => (hJ _).lt HKJ.out h) (fun h => by omega)) (fun h => hb.elim (fun h2 => HKA.out.g h.2 (h.1 ▸ h2)) (fun h2 => by have := (hgB h.2).1; have := h.1; omega))
      have qE : Env n ls fb g A cap yb nb yv W4 := HKE.out.keep hkA hFA (fun h => hg0 h.1.symm) (fun h => (hgB h.2).2.1 h.1.symm) (fun h => (hgB h.2).2.2 h.1.symm)
      have HQ4 := Lib.hid n4
      have HQ6 := Lib.hid q6
      have HQF := Lib.hid hFA
      have HQJ := Lib.hid qJ
      have HQE := Lib.hid qE
      have HKK := Lib.hid hkA
      have HF3 := Lib.hid (hf3 : b = false → _)
      have HT3 := Lib.hid (ht3 : b = true → _)
      have HS3 := Lib.hid hs3
      have HA4 := Lib.hid hsA
      have HBU := Lib.hid hBU
      have g3 := q3.cell
      have g5 := q5.cell
      clear hk3 hF3 hs3 ht3 hf3 n4 hkA hFA hsA hUl q3 q5 q6 qJ qE f3 f5 f7 hBU
      cases b
      · have hnil := solL_nil (n := n) (ls := ls) (small_upd hc (sh_lt HX.out) node) (HF3.out rfl)
        have HEND : Hid (Keeps (fun b => Hh b ∨ G b) U W4 ∧ ∃ H2, (∀ b, H2 b → (Hh b ∨ G b) ∨ U.heap.size ≤ b) ∧ WI W1 rb ls fb g A cap H (J (pre ++ solsOf n ls c node (pre' ++ [x]))) H2 W4) := by
          refine Lib.hid (WI.next HI1.out HI3.out HI4.out HOTH.out (HKK.out.mono fun i _ h => .inr (.inl h)) HQF.out HQ6.out (fun i h => .inl h) ?_)
          rw [solsOf_snoc, hnil, List.append_nil]
          exact HQJ.out
        clear hnil
        gi_wp2_with (refine ⟨trivial, ?_⟩)
        exact HEND.out
      · obtain ⟨hsol, hst', hsub, hnz⟩ := HT3.out rfl
        have hd0 : ∀ i, i < n → c' i ≠ 0 := fun i hi => hnz i (by
          by_cases e : i = node
          · subst e; rw [upd_same]; exact Nat.ne_of_gt (Nat.two_pow_pos x)
          · rw [upd_other _ _ e]; exact hfu i hi)
        have hdz : ∀ i, n ≤ i → c' i = 0 := fun i hi => by
          have := (hsub.trans HSZ.out.1).le i
          rw [hhi i hi] at this
          omega
        have hlt := Nat.lt_of_le_of_lt hsub.size_le HSZ.out.2
        have HWK := Lib.hid (IH c' hlt HS3.out hst' hd0 hdz (pre ++ solsOf n ls c node pre') Hj W4 (by rw [← solL_ext (n := n) (ls := ls) (small_upd hc (sh_lt HX.out) node) HS3.out hsol]; exact HIN.out) HQJ.out HQE.out (by have := HBU.out; have := HA4.out; omega) HKA.out)
        have HEX := Lib.hid (solL_ext (n := n) (ls := ls) (small_upd hc (sh_lt HX.out) node) HS3.out hsol)
        clear hsol hst' hsub hnz hd0 hdz hlt
        gi_wp2_with (first | (with_reducible refine wpListIn_load_chg (by first | rfl | simp [Region.wanted, yielded]) _ rfl w3.heap.size c' rfl HQ4.out.range ?_) | (refine ⟨trivial, ?_⟩; gi_at_call 82; refine (CallsIn.inRound l (callsIn_wide.2 HWK.out)).mono ?_; rintro e w5 ⟨hk5, hF5, H', b5, rfl, hg5, hd5, hx5⟩; have q6 : Boxed w5 rb 4 (.bool false) := (hk5.block _ HQ6.out.lt (fun h => h.elim HKR.out (fun h => by have := HGW.out h.2; have := h.1; have := HRB.out; omega))).trans HQ6.out; have q6c := q6.cell; have q6f := q6.frozen; cases b5))
        · have hz : Keeps (fun b => Hj b ∨ isG ls g b ∨ b = rb) w5 (w5.setCell ⟨rb, 0, none⟩ (.bool false)) := keeps_setCell (H := fun b => Hj b ∨ isG ls g b ∨ b = rb) w5 ⟨rb, 0, none⟩ (.bool false) (.inr (.inr rfl))
          have hkz : Keeps (fun b => Hj b ∨ isG ls g b ∨ b = rb) U (w5.setCell ⟨rb, 0, none⟩ (.bool false)) := ((HKK.out.mono fun i _ h => .inr (.inl h)).trans (hk5.mono fun i _ h => h.imp id .inl) fun _ _ h => h).trans hz fun _ _ h => h
          have hr := HRB.out
          have hsU := HKK.out.size
          have nr : ¬ H' rb := fun h => (hg5 rb h).elim HKR.out (fun h => by have := HQ6.out.lt; omega)
          have hj5 : Jx H' (w5.setCell ⟨rb, 0, none⟩ (.bool false)) := hJx.keep (hx5 (by trivial)) hz.size fun b hb => heap_setCell_other _ _ _ _ (show b ≠ rb from hb.elim (fun h e => nr (e ▸ h)) (fun h => by omega))
          have hF6 : FinAt (w5.setCell ⟨rb, 0, none⟩ (.bool false)) fb g A cap ls := hF5.up hz.size (heap_setCell_other _ _ _ _ (show fb ≠ rb by omega)) (fun h => heap_setCell_other _ _ _ _ (show g ≠ rb by have := HGW.out h; omega))
          obtain ⟨e1, H2, e2, e3⟩ := WI.next (Hh := Hh) (G := G) HI1.out HI3.out HI4.out HOTH.out hkz hF6 (q6.set (.bool false)) (fun i h => (hg5 i h).imp id (fun h => by omega)) hj5
          exact ⟨e1, H2, e2, rfl, e3⟩
        · have hkz : Keeps (fun b => Hj b ∨ isG ls g b ∨ b = rb) U w5 := (HKK.out.mono fun i _ h => .inr (.inl h)).trans (hk5.mono fun i _ h => h.imp id .inl) fun _ _ h => h
          have hsU := HKK.out.size
          have hj5 := hd5 (by trivial)
          rw [← HEX.out, List.append_assoc, ← solsOf_snoc] at hj5
          exact WI.next (Hh := Hh) (G := G) HI1.out HI3.out HI4.out HOTH.out hkz hF5 q6 (fun i h => (hg5 i h).imp id (fun h => by omega)) hj5
    case done =>
      rintro D Hh W hD hHD hg2 ⟨Hj, i1, i2, i3, i4, i5, i6, i7⟩ hk hKd
      have g4 := i6.cell
      have g4f := i6.frozen
      have HKD : Hid ((W.setCell ⟨rb, 0, none⟩ (.bool true)).heap[D]? = some (.deferred (some []))) := Lib.hid ((heap_setCell_other _ _ _ _ (show D ≠ rb by omega)).trans hKd)
      have hkz : Keeps (fun b => b = rb ∨ b = D) W ((W.setCell ⟨rb, 0, none⟩ (.bool true)).putObj D (.deferred none)) :=
        (keeps_setCell (H := fun b => b = rb ∨ b = D) W ⟨rb, 0, none⟩ _ (.inl rfl)).trans (keeps_putObj (H := fun b => b = rb ∨ b = D) _ D _ (.inr rfl)) fun _ _ h => h
      have nr : ¬ Hj rb := fun h => (i3 rb h).elim (fun h => by have := hHlt rb h; omega) (fun h => by omega)
      obtain ⟨e1, e2, e3, e4⟩ := walk_end (A := A) (cap := cap) (rb := rb) (D := D) (B := B) (H := fun b => H b ∨ b = rb) (H' := Hj) HBW.out (by omega) (by omega) hBw (hk.mono fun i _ h => h.elim (fun h => .inl (.inl h)) (fun h => h.elim (fun h => .inl (.inr h)) .inr)) hkz i5 hfb HGW.out (fun i h => (i3 i h).imp .inl id) nr (fun h => hHD ((i1 D).2 (.inl h)))
      have HE1 := Lib.hid (e1.mono (K := fun b => H b ∨ isG ls g b) fun i hi h => h.elim (fun h => h.elim .inl (fun h => by omega)) .inr)
      have HE2 := Lib.hid e2
      have HE3 : Hid (∀ i, Hj i → H i ∨ w.heap.size ≤ i) := Lib.hid fun i h => (e3 i h).elim (fun h => h.elim .inl (fun h => .inr (by omega))) .inr
      have HE4 := Lib.hid (e4 _ (hJ _) i2)
      have HR : Hid (Boxed ((W.setCell ⟨rb, 0, none⟩ (.bool true)).putObj D (.deferred none)) rb 4 (.bool true)) := Lib.hid ((World.putObj_heap_other (by omega)).trans (i6.set (.bool true)))
      clear i1 i2 i3 i4 i5 i6 i7 hk hKd hg2 hHD hkz nr e1 e2 e3 e4 hrb
      gi_wp2
      refine ⟨by simp, .inl ⟨_, _, rfl, run_takeDeferred HKD.out, ?_⟩⟩
      refine ⟨_, results_bool rfl _ _ rb true rfl HR.out, HE1.out, HE2.out, Hj, true, rfl, HE3.out, fun _ => ?_, fun h => by cases h⟩
      rw [HSOL.out]
      exact HE4.out
    case stop =>
      rintro D code Hh W hD hHD hg2 ⟨rfl, Hj, i1, i2, i3, i4, i5, i6, i7⟩ hk hKd
      have HKD := Lib.hid hKd
      have hkz : Keeps (fun b => b = rb ∨ b = D) W (W.putObj D (.deferred none)) := keeps_putObj (H := fun b => b = rb ∨ b = D) _ D _ (.inr rfl)
      have nr : ¬ Hj rb := fun h => (i3 rb h).elim (fun h => by have := hHlt rb h; omega) (fun h => by omega)
      obtain ⟨e1, e2, e3, e4⟩ := walk_end (A := A) (cap := cap) (rb := rb) (D := D) (B := B) (H := fun b => H b ∨ b = rb) (H' := Hj) HBW.out (by omega) (by omega) hBw (hk.mono fun i _ h => h.elim (fun h => .inl (.inl h)) (fun h => h.elim (fun h => .inl (.inr h)) .inr)) hkz i5 hfb HGW.out (fun i h => (i3 i h).imp .inl id) nr (fun h => hHD ((i1 D).2 (.inl h)))
      have HE1 := Lib.hid (e1.mono (K := fun b => H b ∨ isG ls g b) fun i hi h => h.elim (fun h => h.elim .inl (fun h => by omega)) .inr)
      have HE2 := Lib.hid e2
      have HE3 : Hid (∀ i, Hj i → H i ∨ w.heap.size ≤ i) := Lib.hid fun i h => (e3 i h).elim (fun h => h.elim .inl (fun h => .inr (by omega))) .inr
      have HE4 := Lib.hid (e4 _ hJx i2)
      have HR : Hid (Boxed (W.putObj D (.deferred none)) rb 4 (.bool false)) := Lib.hid ((World.putObj_heap_other (by omega)).trans i6)
      clear i1 i2 i3 i4 i5 i6 i7 hk hKd hg2 hHD hkz nr e1 e2 e3 e4 hrb
      gi_wp2
      refine ⟨by simp, .inl ⟨_, _, rfl, run_takeDeferred HKD.out, ?_⟩⟩
      exact ⟨_, results_bool rfl _ _ rb false rfl HR.out, HE1.out, HE2.out, Hj, false, rfl, HE3.out, fun h => (by cases h), fun _ => HE4.out⟩

/-- all solutions of choices that lie ready, handed over in their order -/
theorem walk_any (n : Nat) (hn : n ≤ 40) (ls : List Lk) (hls : LsOk n ls) (hll : ls.length ≤ 1000) (fb g : Nat) (A : Option Addr) (cap : Nat) (hg0 : g ≠ 0) (yb nb : Nat) (yv : Value) (B : Nat) (J : List (List Int) → Blks → World → Prop) (Jx : Blks → World → Prop)
    (hJ : ∀ pre, Foot (fun b => b < B) (J pre)) (hJx : Foot (fun b => b < B) Jx) (hgB : 0 < ls.length → B ≤ g ∧ g ≠ yb ∧ g ≠ nb) (xs : List (List Int))
    (hY : ∀ pre c H V, Small c → (∀ i, i < n → c i ≠ 0) → pre ++ [imgs n c] <+: xs → J pre H V → Env n ls fb g A cap yb nb yv V → B ≤ V.heap.size → Apart ls fb g yb nb H →
      Calls Tryd.prog 83 #[.agg (chA c), .pointer (some ⟨yb, 0, none⟩), .pointer (some ⟨nb, 0, none⟩)] V (WEnd (fun _ => False) ls fb g A cap H V (J (pre ++ [imgs n c])) Jx)) :
    ∀ (k : Nat) (c : Choices), sizeC c < k → Small c → Stable ls c → (∀ i, i < n → c i ≠ 0) → (∀ i, n ≤ i → c i = 0) → ∀ pre H V, pre ++ solL n ls c <+: xs → J pre H V → Env n ls fb g A cap yb nb yv V → B ≤ V.heap.size → Apart ls fb g yb nb H →
      Calls Tryd.prog 82 #[.pointer (some ⟨fb, 0, none⟩), .agg (chA c), .func (.func 83) #[] #[.pointer (some ⟨yb, 0, none⟩), .pointer (some ⟨nb, 0, none⟩)]] V (WEnd (isG ls g) ls fb g A cap H V (J (pre ++ solL n ls c)) Jx) := by
  intro k
  induction k with
  | zero => intro c h; omega
  | succ k ih =>
    intro c hk hc hst hfu hhi pre H V hxs hj hE hBw hA
    exact walk_of n hn ls hls hll fb g A cap hg0 yb nb yv B J Jx hJ hJx hgB xs hY c hc hst hfu hhi (fun d hd => ih d (by omega)) pre H V hxs hj hE hBw hA

end Go.Proofs.YtaeelanbkdkppaaDoor

/-
  The images of choices that have one node each, as a new slice.
-/
namespace Go.Proofs.YtaeelanbkdkppaaDoor
open Go.RowKit

theorem imgs_row (n : Nat) (c : Choices) : imgs n c = rowI n fun i => (Lib.ctz 64 (c i) : Int) := rfl

set_option maxHeartbeats 1000000 in
theorem images_any (n : Nat) (hn : n ≤ 40) (c : Choices) (hc : Small c) (h0 : ∀ i, i < n → c i ≠ 0) (w : World) (h00 : 0 < w.heap.size) (hT : TabW w) :
    Calls Tryd.prog 84 #[.agg (chA c), .int .i64 (n : Int)] w fun e w' => ∃ v, e = .returned v ∧ OwnI w' w.heap.size v (imgs n c) ∧ Below w.heap.size w w' := by
  have hn0 : (n : Int) ≤ 40 := by omega
  go_enter Tryd.func84, Tryd.ntmps84
  go_upto_region 1 with fail
  have hb0 : Below w.heap.size w (w.alloc (.cells (chA c) 108)) := (Below.refl _ _).alloc (Nat.le_refl _) _
  have hs0 : (w.alloc (.cells (chA c) 108)).heap.size = w.heap.size + 1 := by simp
  have c0 := ChAt.new w 108 c
  generalize w.alloc (.cells (chA c) 108) = W0 at *
  go_upto_region 3 with (at_make; refine wpList_make_I rfl _ _ rfl w.heap.size n _ rfl rfl rfl (by omega) (by omega) ?_; intro w1 hown hb hsz)
  have hgl : W0.heap.size < w1.heap.size := hsz
  rw [hs0] at hown hgl
  obtain ⟨gg, hgg⟩ : ∃ gg, gg = w.heap.size + 1 := ⟨_, rfl⟩
  rw [← hgg] at hown hgl ⊢
  have c1 : ChAt w1 108 w.heap.size c := c0.up hb
  have hb1 : Below w.heap.size w w1 := hb0.trans (hb.mono (by omega))
  have hg : w.heap.size < gg := by omega
  clear c0 hb0 hs0 hgg hb hsz
  go_loopw [11] (fun v wr => ∃ i : Nat, i ≤ n ∧ v = .int .i64 (i : Int) ∧ OwnI wr w.heap.size (.slice (some ⟨gg, 0, none⟩) n n) (rowI n fun j => if j < i then (Lib.ctz 64 (c j) : Int) else 0) ∧ ChAt wr 108 w.heap.size c ∧ Below w.heap.size w wr) (fun v _ => n - (intOf v).toNat)
  case atStart => exact ⟨0, Nat.zero_le _, rfl, by simpa using hown, c1, hb1⟩
  case round =>
    obtain ⟨i, hi, rfl, ho, q1, q2⟩ := hrel
    clear hown c1 hb1
    by_cases hlt : i < n
    · have ci := q1.cell (i := i) (by omega)
      have i0 : (0 : Int) ≤ (i : Int) := by omega
      have i1 : (i : Int) < (n : Int) := by omega
      have i2 : ((i : Int)).toNat = i := by omega
      have i3 : (i : Int) < 40 := by omega
      have HTZ := Lib.hid (tz_any (c i) (by have := hc i; omega) (h0 i hlt) wr (hT.up (q2.block 0 h00)))
      have hl : n = (rowI n fun j => if j < i then (Lib.ctz 64 (c j) : Int) else 0).length := (rowI_length _ _).symm
      have cc := OwnI.cell hl ho hlt
      have cf := OwnI.free hl ho i
      obtain ⟨hs1, hs2⟩ := OwnI.set hl ho i (Lib.ctz 64 (c i) : Int)
      rw [rowI_set] at hs1
      have HS1 := Lib.hid hs1
      have HS2 : Hid (Below w.heap.size w (wr.setCell ⟨gg, i, none⟩ (.int .i64 (Lib.ctz 64 (c i) : Int)))) := Lib.hid (q2.setCell (p := ⟨gg, i, none⟩) (show w.heap.size ≤ gg by omega) _)
      have HS3 := Lib.hid (q1.other (p := ⟨gg, i, none⟩) (show w.heap.size ≠ gg by omega) (.int .i64 (Lib.ctz 64 (c i) : Int)))
      have HL := Lib.hid hlt
      have HM : Hid (n - ((i : Int) + 1).toNat < n - ((i : Int)).toNat) := Lib.hid (by omega)
      clear hl hs1 hs2 ho q1 q2 hT hlt
      go_wp2_with (go_at_call 100; refine HTZ.out.mono ?_; rintro e w' ⟨rfl, rfl⟩)
      go_roundw
      case rel =>
        refine ⟨i + 1, HL.out, by go_num, ?_, HS3.out, HS2.out⟩
        have e : (rowI n fun j => if j < i + 1 then (Lib.ctz 64 (c j) : Int) else 0) = rowI n fun j => if j = i then (Lib.ctz 64 (c i) : Int) else if j < i then (Lib.ctz 64 (c j) : Int) else 0 := rowI_ext fun j hj => by
          by_cases e1 : j = i
          · subst e1; rw [if_pos (by omega), if_pos rfl]
          · rw [if_neg e1]
            by_cases e2 : j < i
            · rw [if_pos (by omega), if_pos e2]
            · rw [if_neg (by omega), if_neg e2]
        rw [e]
        exact HS1.out
      case measure => exact HM.out
    · obtain rfl : i = n := by omega
      have e : (rowI i fun j => if j < i then (Lib.ctz 64 (c j) : Int) else 0) = imgs i c := by
        rw [imgs_row]
        exact rowI_ext fun j hj => by rw [if_pos hj]
      rw [e] at ho
      have HO := Lib.hid ho
      clear ho
      go_wp2_with fail
      go_ret
      exact ⟨_, rfl, HO.out, q2⟩

end Go.Proofs.YtaeelanbkdkppaaDoor

/-
  append of a whole slice (nil or not) tq a row of the call's own.
-/
namespace Go.Proofs.YtaeelanbkdkppaaDoor
open Go.RowKit

theorem run_append_empty {P : Program} {w : World} (base : Nat) (t ty e : TypeId) (i : TypeInfo) (size c : Nat) (ht : P.underlying t = some (.slice e)) (hi : P.info? e = some i) (v : Value) (n : Nat) (xs : List Value) (hown : w.ownsRow base e size v n xs) :
    (Builtin.append_ #[t, t] ty #[v, .slice none 0 c]).run P w = .ok v w := by
  rcases hown.2 with ⟨rfl, rfl⟩ | ⟨g, cap, cur, rfl, _, _, hnc, _⟩
  · simp [Builtin.append_, run_underlying ht, sizeOf, typeInfo, hi, Builtin.lenOf, Builtin.firstCells]
  · simp [Builtin.append_, run_underlying ht, sizeOf, typeInfo, hi, Builtin.lenOf, Builtin.firstCells, hnc, storeCells]

section
variable {α : Type} {E : El α}
theorem wp_append_many {w : World} {o : Oper} {a : Act} {K : Act → World → Prop} {Q : Exit → Act → World → Prop} (s x : Operand) (T t : TypeId)
    (ho : o.op = .call { callee := .builtin .append, args := #[s, x], argTypes := #[T, T] }) {z : Value} {bytes : Nat}
    (hT : Tryd.prog.underlying T = some (.slice t)) (hinfo : (Tryd.prog.info? t).map (fun i => (i.zero, i.size, i.bytes)) = some (some z, E.size, bytes)) (hzc : z.cells.size = E.size) (hpos : 0 < E.size) (hby : bytes ≤ 1000)
    (base : Nat) (v : Value) (xs : List α) (hs : a.eval s = v) (hown : OwnE E t w base v xs) (A : Option Addr) (m c B : Nat) (ys : List α) (hx : a.eval x = .slice A m c) (hm : m = ys.length) (hR : Reads E w B A ys) (hl : xs.length ≤ 100000) (hl2 : m ≤ 100000) (hbase : base ≤ w.heap.size)
    (hK : ∀ v' w', OwnE E t w' base v' (xs ++ ys) → w.grownBy w' v.ownBlock → Below base w w' → (v' = .slice none 0 0 ↔ v = .slice none 0 0 ∧ m = 0) → K (a.put o.dst v') w') : o.wp Tryd.prog a w K Q := by
  obtain ⟨i0, hi, hz0, hz1, hz2⟩ := info_parts hinfo
  subst hm
  cases A with
  | none =>
    have e : ys = [] := by
      rcases hR with h | ⟨b, off, h, _⟩
      · exact h
      · cases h
    subst e
    have hr := run_append_empty (P := Tryd.prog) (w := w) base T o.type t i0 E.size c hT hi v xs.length (cellsE E xs) hown
    unfold Oper.wp execOp
    simp only [List.length_nil] at hx
    simp only [ho, resolve, invoke, builtin, Sem.run_bind, Sem.run_pure, Result.andThen_ok, List.map_toArray, List.map_cons, List.map_nil, hs, hx, hr]
    exact hK v w (by rw [List.append_nil]; exact hown) (grown_refl w _) (Below.refl _ _) (by simp)
  | some ad =>
    have hb : (xs.length + ys.length) * bytes ≤ 200000 * 1000 := Nat.mul_le_mul (by omega) hby
    refine wp_append_own w s x T ho base t i0 z E.size bytes hT hi hz0 hz1 hz2 hzc hpos v xs.length (cellsE E xs) hs hown ad ys.length c (cellsE E ys) hx (cellsE_length E ys) ?_ (cellsE_one E ys) (by unfold maxLen; omega) (by omega) hbase fun v' w' h1 h2 h3 => hK v' w' ?_ h2 ((Below.refl base w).grown h2 hbase (fun k hk => (hown.lt k hk).1)) h3
    · intro j u hj
      rcases hR with h | ⟨b, off, h, _, h3⟩
      · subst h; simp [cellsE] at hj
      · cases h
        obtain ⟨hj1, _⟩ := List.getElem?_eq_some_iff.1 hj
        rw [cellsE_length] at hj1
        have hi2 : j / E.size < ys.length := (Nat.div_lt_iff_lt_mul hpos).2 hj1
        have hq := List.getElem?_eq_getElem hi2
        have hu : (E.enc ys[j / E.size])[j % E.size]? = some u := by
          have hlt : j % E.size < (E.enc ys[j / E.size]).length := by rw [E.len]; exact Nat.mod_lt _ hpos
          have := cellsE_get E hq (List.getElem?_eq_getElem hlt)
          rw [show j / E.size * E.size + j % E.size = j by rw [Nat.mul_comm]; exact Nat.div_add_mod j E.size, hj] at this
          rw [List.getElem?_eq_getElem hlt, this]
        have := h3 _ _ hq _ _ hu
        rw [addr_plain]
        have e : off + j = off + j / E.size * E.size + j % E.size := by rw [Nat.add_assoc, show j / E.size * E.size + j % E.size = j by rw [Nat.mul_comm]; exact Nat.div_add_mod j E.size]
        rw [e]
        exact this
    · unfold OwnE
      rw [List.length_append]
      unfold cellsE at h1 ⊢
      rw [List.flatMap_append]
      exact h1
/-- an empty literal is a row of the call's own -/
theorem OwnE.empty {t : TypeId} {w : World} {base g : Nat} (h : w.heap[g]? = some (.cells #[] t (0, 0))) (hb : base ≤ g) : OwnE E t w base (.slice (some ⟨g, 0, none⟩) 0 0) [] :=
  ⟨by simp [cellsE], .inr ⟨g, 0, #[], rfl, hb, h, Nat.le_refl _, by simp, by simp, by simp [cellsE]⟩⟩
end

/-- a row lies in another block than one of another type -/
theorem own_far {α : Type} {E : El α} {t t' : TypeId} {w : World} {base B : Nat} {v : Value} {xs : List α} {cs : Array Value} (h : OwnE E t w base v xs) (hb : w.heap[B]? = some (.cells cs t' (0, 0))) (hne : t ≠ t') : v.ownBlock ≠ some B := by
  rcases h.2 with ⟨rfl, _⟩ | ⟨g, cap, cur, rfl, _, hg, _⟩
  · simp [Value.ownBlock]
  · intro he
    have e : g = B := by simpa [Value.ownBlock] using he
    subst e
    rw [hg] at hb
    simp only [Option.some.injEq, Obj.cells.injEq] at hb
    exact hne hb.2.1
end Go.Proofs.YtaeelanbkdkppaaDoor

/-
  Graphs in memory.
-/
namespace Go.Proofs.YtaeelanbkdkppaaDoor
open Go.RowKit

def EEd : El Ed := ⟨fun x => [.int .i64 x.ty, .int .i64 x.fr, .int .i64 x.tq], 3, fun _ => rfl, fun x u hu => by simp at hu; rcases hu with rfl | rfl | rfl <;> rfl⟩
abbrev Eds (w : World) (B : Nat) (A : Option Addr) (xs : List Ed) : Prop := Reads EEd w B A xs
abbrev OwnEd (w : World) (base : Nat) (v : Value) (xs : List Ed) : Prop := OwnE EEd 65 w base v xs
theorem infoEd : (Tryd.prog.info? 65).map (fun i => (i.zero, i.size, i.bytes)) = some (some (.agg #[.int .i64 0, .int .i64 0, .int .i64 0]), 3, 24) := by kernel_rfl
theorem Eds.cells {w : World} {B : Nat} {A : Option Addr} {xs : List Ed} (h : Eds w B A xs) {k : Nat} (hk : k < xs.length) :
    ∃ b off, A = some ⟨b, off, none⟩ ∧ b < B ∧ ∀ i, i < xs.length → w.cell? ⟨b, off + i * 3, none⟩ = some (.int .i64 (xs.getD i default).ty) ∧ w.cell? ⟨b, off + i * 3 + 1, none⟩ = some (.int .i64 (xs.getD i default).fr) ∧ w.cell? ⟨b, off + i * 3 + 2, none⟩ = some (.int .i64 (xs.getD i default).tq) := by
  obtain ⟨b, off, h1, h2, h3⟩ := Reads.at h hk
  refine ⟨b, off, h1, h2, fun i hi => ?_⟩
  have e : xs.getD i default = xs[i] := by rw [List.getD_eq_getElem?_getD, List.getElem?_eq_getElem hi]; rfl
  rw [e]
  exact ⟨h3 i hi 0 _ rfl, h3 i hi 1 _ rfl, h3 i hi 2 _ rfl⟩

/-- the value of a graph, a morphism or a part: two slices -/
abbrev gval (An : Option Addr) (n cn : Nat) (Ae : Option Addr) (m ce : Nat) : Value := .agg #[.slice An n cn, .slice Ae m ce]
/-- two slices read as a graph -/
structure GrAt (w : World) (An : Option Addr) (cn : Nat) (Ae : Option Addr) (ce : Nat) (g : Gr) : Prop where
  ns : Ints w w.heap.size An g.ns
  es : Eds w w.heap.size Ae g.es
  cn : g.ns.length ≤ cn ∧ cn ≤ maxLen
  ce : g.es.length ≤ ce ∧ ce ≤ maxLen
structure MoAt (w : World) (An : Option Addr) (cn : Nat) (Ae : Option Addr) (ce : Nat) (m : Mo) : Prop where
  ns : Ints w w.heap.size An m.ns
  es : Ints w w.heap.size Ae m.es
  cn : m.ns.length ≤ cn ∧ cn ≤ maxLen
  ce : m.es.length ≤ ce ∧ ce ≤ maxLen
theorem GrAt.up {w w' : World} {An : Option Addr} {cn : Nat} {Ae : Option Addr} {ce : Nat} {g : Gr} (h : GrAt w An cn Ae ce g) (hb : Below w.heap.size w w') : GrAt w' An cn Ae ce g := ⟨Reads.up h.ns hb, Reads.up h.es hb, h.cn, h.ce⟩
theorem MoAt.up {w w' : World} {An : Option Addr} {cn : Nat} {Ae : Option Addr} {ce : Nat} {g : Mo} (h : MoAt w An cn Ae ce g) (hb : Below w.heap.size w w') : MoAt w' An cn Ae ce g := ⟨Reads.up h.ns hb, Reads.up h.es hb, h.cn, h.ce⟩
/-- a slice value that reads as a list -/
def IsI (w : World) (v : Value) (xs : List Int) : Prop := ∃ A c, v = .slice A xs.length c ∧ Ints w w.heap.size A xs ∧ xs.length ≤ c ∧ c ≤ maxLen
def IsE (w : World) (v : Value) (xs : List Ed) : Prop := ∃ A c, v = .slice A xs.length c ∧ Eds w w.heap.size A xs ∧ xs.length ≤ c ∧ c ≤ maxLen
/-- a value that reads as a graph, or as a morphism -/
def IsG (w : World) (v : Value) (g : Gr) : Prop := ∃ An cn Ae ce, v = gval An g.ns.length cn Ae g.es.length ce ∧ GrAt w An cn Ae ce g
def IsM (w : World) (v : Value) (m : Mo) : Prop := ∃ An cn Ae ce, v = gval An m.ns.length cn Ae m.es.length ce ∧ MoAt w An cn Ae ce m
theorem IsI.up {w w' : World} {v : Value} {xs : List Int} (h : IsI w v xs) (hb : Below w.heap.size w w') : IsI w' v xs := by
  obtain ⟨A, c, e, h1, h2⟩ := h
  exact ⟨A, c, e, Reads.up h1 hb, h2⟩
theorem IsE.up {w w' : World} {v : Value} {xs : List Ed} (h : IsE w v xs) (hb : Below w.heap.size w w') : IsE w' v xs := by
  obtain ⟨A, c, e, h1, h2⟩ := h
  exact ⟨A, c, e, Reads.up h1 hb, h2⟩
theorem IsG.up {w w' : World} {v : Value} {g : Gr} (h : IsG w v g) (hb : Below w.heap.size w w') : IsG w' v g := by
  obtain ⟨An, cn, Ae, ce, e, h1⟩ := h
  exact ⟨An, cn, Ae, ce, e, h1.up hb⟩
theorem IsM.up {w w' : World} {v : Value} {g : Mo} (h : IsM w v g) (hb : Below w.heap.size w w') : IsM w' v g := by
  obtain ⟨An, cn, Ae, ce, e, h1⟩ := h
  exact ⟨An, cn, Ae, ce, e, h1.up hb⟩
theorem own_cap {w : World} {base : Nat} {e : TypeId} {size : Nat} {v : Value} {n : Nat} {xs : List Value} (h : w.ownsRow base e size v n xs) : ∃ ao cap, v = .slice ao n cap ∧ n ≤ cap ∧ cap ≤ maxLen := by
  rcases h.2 with ⟨hv, h0⟩ | ⟨g, cap, cur, hv, _, _, h1, h2, _⟩
  · exact ⟨none, 0, by rw [hv, h0], by omega, by unfold maxLen; omega⟩
  · exact ⟨_, _, hv, h1, h2⟩
theorem OwnE.reads_cap {α : Type} {E : El α} {t : TypeId} {w : World} {base : Nat} {v : Value} {xs : List α} (h : OwnE E t w base v xs) : ∃ A c, v = .slice A xs.length c ∧ Reads E w w.heap.size A xs ∧ xs.length ≤ c ∧ c ≤ maxLen := by
  obtain ⟨A, c, e, hR⟩ := OwnE.reads h
  obtain ⟨A', c', e', h1, h2⟩ := own_cap h
  rw [e] at e'
  injection e' with _ _ ec
  subst ec
  exact ⟨A, c, e, hR, h1, h2⟩
theorem isI_own {w : World} {base : Nat} {v : Value} {xs : List Int} (h : OwnI w base v xs) : IsI w v xs := OwnE.reads_cap h
theorem isE_own {w : World} {base : Nat} {v : Value} {xs : List Ed} (h : OwnEd w base v xs) : IsE w v xs := OwnE.reads_cap h
theorem isG_of {w : World} {v u : Value} {g : Gr} (h1 : IsI w v g.ns) (h2 : IsE w u g.es) : IsG w (.agg #[v, u]) g := by
  obtain ⟨A, c, rfl, h3, h4⟩ := h1
  obtain ⟨A', c', rfl, h5, h6⟩ := h2
  exact ⟨A, c, A', c', rfl, h3, h5, h4, h6⟩
theorem isM_of {w : World} {v u : Value} {g : Mo} (h1 : IsI w v g.ns) (h2 : IsI w u g.es) : IsM w (.agg #[v, u]) g := by
  obtain ⟨A, c, rfl, h3, h4⟩ := h1
  obtain ⟨A', c', rfl, h5, h6⟩ := h2
  exact ⟨A, c, A', c', rfl, h3, h5, h4, h6⟩
theorem isI_nil (w : World) : IsI w (.slice none 0 0) [] := ⟨none, 0, rfl, .inl rfl, Nat.le_refl _, by unfold maxLen; omega⟩
theorem isM_nil (w : World) : IsM w (gval none 0 0 none 0 0) noM := isM_of (g := noM) (isI_nil w) (isI_nil w)

theorem box_cell {w w1 : World} {u v : Value} {t : TypeId} (h : Below (w.heap.size + 1) (w.alloc (.cells #[u, v] t (0, 0))) w1) : w1.cell? ⟨w.heap.size, 0, none⟩ = some u ∧ w1.cell? ⟨w.heap.size, 1, none⟩ = some v :=
  ⟨(h.cell (p := ⟨w.heap.size, 0, none⟩) (Nat.lt_succ_self _)).trans (by simp), (h.cell (p := ⟨w.heap.size, 1, none⟩) (Nat.lt_succ_self _)).trans (by simp)⟩
theorem box_below {w w1 : World} {o : Obj} (h : Below (w.heap.size + 1) (w.alloc o) w1) : Below w.heap.size w w1 := ((Below.refl _ _).alloc (Nat.le_refl _) _).trans (h.mono (Nat.le_succ _))
theorem boxes2 {w w1 : World} {o o2 : Obj} (h : Below ((w.alloc o).alloc o2).heap.size ((w.alloc o).alloc o2) w1) : w1.heap[w.heap.size]? = some o ∧ w1.heap[w.heap.size + 1]? = some o2 ∧ w.heap.size + 2 ≤ w1.heap.size :=
  ⟨(h.block w.heap.size (by simp; omega)).trans (heap_two w o o2), (h.block (w.heap.size + 1) (by simp)).trans (heap_two' w o o2), by have := h.size; simpa using this⟩
theorem cell2 {w : World} {b : Nat} {u v : Value} {t : TypeId} (h : w.heap[b]? = some (.cells #[u, v] t (0, 0))) : w.cell? ⟨b, 0, none⟩ = some u ∧ w.cell? ⟨b, 1, none⟩ = some v :=
  ⟨cell_of_row _ _ _ _ _ _ h, cell_of_row _ _ _ _ _ _ h⟩
theorem cell3 {w : World} {b : Nat} {u v x : Value} {t : TypeId} (h : w.heap[b]? = some (.cells #[u, v, x] t (0, 0))) : w.cell? ⟨b, 0, none⟩ = some u ∧ w.cell? ⟨b, 1, none⟩ = some v ∧ w.cell? ⟨b, 2, none⟩ = some x :=
  ⟨cell_of_row _ _ _ _ _ _ h, cell_of_row _ _ _ _ _ _ h, cell_of_row _ _ _ _ _ _ h⟩
theorem heap_up {w w1 : World} {b : Nat} {o : Obj} (hb : Below w.heap.size w w1) (h : w.heap[b]? = some o) : w1.heap[b]? = some o := (hb.block b (Array.getElem?_eq_some_iff.1 h).1).trans h
theorem heap_lt {w : World} {b : Nat} {o : Obj} (h : w.heap[b]? = some o) : b < w.heap.size := (Array.getElem?_eq_some_iff.1 h).1

/-! isIndex, kind, isEdge, right -/
theorem isIndex_any (x : Int) (n : Nat) (w : World) : Calls Tryd.prog 65 #[.int .i64 x, .int .i64 (n : Int)] w fun e w' => e = .returned (.bool (idxB x n)) ∧ w = w' := by
  have H : Hid (idxB x n = (decide (0 ≤ x) && decide (x < (n : Int)))) := Lib.hid rfl
  by_cases h1 : 0 ≤ x
  · by_cases h2 : x < (n : Int)
    · go_enter Tryd.func65, Tryd.ntmps65
      go_wp2
      go_ret
      exact ⟨ret_bool (by rw [H.out, decide_eq_true h1, decide_eq_true h2]; rfl), rfl⟩
    · have h2' : (n : Int) ≤ x := by omega
      go_enter Tryd.func65, Tryd.ntmps65
      go_wp2
      go_ret
      exact ⟨ret_bool (by rw [H.out, decide_eq_true h1, decide_eq_false (p := x < (n : Int)) (by omega)]; rfl), rfl⟩
  · have h1' : x < 0 := by omega
    go_enter Tryd.func65, Tryd.ntmps65
    go_wp2
    go_ret
    exact ⟨ret_bool (by rw [H.out, decide_eq_false (p := 0 ≤ x) (by omega)]; rfl), rfl⟩
end Go.Proofs.YtaeelanbkdkppaaDoor

/-
  What the search does with a solution: its images are handed over in a new slice.
-/
namespace Go.Proofs.YtaeelanbkdkppaaDoor
open Go.RowKit Go.Shelf

attribute [local go_sem] Oper.semAt_some

/-- a slice that reads as xs, in a block of G -/
def InG (G : Blks) (V : World) (v : Value) (xs : List Int) : Prop := ∃ A c, v = .slice A xs.length c ∧ xs.length ≤ c ∧ c ≤ maxLen ∧ (xs = [] ∨ ∃ b off, A = some ⟨b, off, none⟩ ∧ G b ∧ b < V.heap.size ∧ ∀ i, i < xs.length → V.cell? ⟨b, off + i, none⟩ = some (.int .i64 (xs.getD i 0)))
theorem InG.up {G : Blks} {V V' : World} {v : Value} {xs : List Int} (h : InG G V v xs) (hs : V.heap.size ≤ V'.heap.size) (hb : ∀ b, G b → b < V.heap.size → V'.heap[b]? = V.heap[b]?) : InG G V' v xs := by
  obtain ⟨A, c, e, h1, h2, h3⟩ := h
  refine ⟨A, c, e, h1, h2, h3.imp id ?_⟩
  rintro ⟨b, off, e1, g, hl, hc⟩
  exact ⟨b, off, e1, g, by omega, fun i hi => (cell_heap (p := ⟨b, off + i, none⟩) (hb b g hl)).trans (hc i hi)⟩
theorem InG.mono {G G' : Blks} {V : World} {v : Value} {xs : List Int} (h : InG G V v xs) (hG : ∀ b, G b → G' b) : InG G' V v xs := by
  obtain ⟨A, c, e, h1, h2, h3⟩ := h
  refine ⟨A, c, e, h1, h2, h3.imp id ?_⟩
  rintro ⟨b, off, e1, g, hr⟩
  exact ⟨b, off, e1, hG b g, hr⟩
theorem InG.isI {G : Blks} {V : World} {v : Value} {xs : List Int} (h : InG G V v xs) : IsI V v xs := by
  obtain ⟨A, c, e, h1, h2, h3⟩ := h
  refine ⟨A, c, e, h3.imp id ?_, h1, h2⟩
  rintro ⟨b, off, e1, _, hl, hc⟩
  refine ⟨b, off, e1, hl, fun i x hx j u hu => ?_⟩
  have hi : i < xs.length := (List.getElem?_eq_some_iff.1 hx).1
  have hd : xs.getD i 0 = x := by rw [List.getD_eq_getElem?_getD, hx]; rfl
  cases j with
  | zero =>
    have e2 : EInt.size = 1 := rfl
    rw [e2, Nat.mul_one, Nat.add_zero, hc i hi, hd]
    simpa [EInt] using hu
  | succ j => simp [EInt] at hu
/-- a slice of the call's own, and its block -/
theorem InG.own {w : World} {base : Nat} {v : Value} {xs : List Int} (h : OwnI w base v xs) : InG (fun b => v.ownBlock = some b) w v xs := by
  obtain ⟨A, c, e, hR, h1, h2⟩ := OwnE.reads_cap h
  refine ⟨A, c, e, h1, h2, ?_⟩
  rcases Nat.eq_zero_or_pos xs.length with h0 | h0
  · exact .inl (List.length_eq_zero_iff.1 h0)
  · obtain ⟨g, c', e', hg1, hg2⟩ := OwnE.pos h h0
    rw [e] at e'
    injection e' with e1 _ _
    obtain ⟨b, off, e3, hb, hc⟩ := Ints.cells hR h0
    rw [e1] at e3
    injection e3 with e3
    injection e3 with e4 e5 _
    subst e4 e5
    exact .inr ⟨g, 0, e1, by rw [e, e1]; rfl, hg2, hc⟩
/-- what an iterator over rows hands over: a row, and the block that it lies in -/
def RRow (B : Nat) (x : List Int) (G : Blks) (V : World) (vs : Array Value) : Prop := ∃ v, vs = #[v] ∧ InG G V v x ∧ ∀ b, G b → B ≤ b
theorem RRow.mono {B B' : Nat} {x : List Int} {G : Blks} {V : World} {vs : Array Value} (h : RRow B x G V vs) (hB : B' ≤ B) : RRow B' x G V vs := by
  obtain ⟨v, h1, h2, h3⟩ := h
  exact ⟨v, h1, h2, fun b hb => Nat.le_trans hB (h3 b hb)⟩

theorem opIn_load_ch {F : Fence} {n : Nat} {o : Oper} {a : Act} {w : World} {K : Act → World → Prop} {Q : Exit → Act → World → Prop} (x : Operand) (ho : o.op = .load 108 x)
    (b : Nat) (c : Chs) (hx : a.eval x = .pointer (some ⟨b, 0, none⟩)) (hc : w.rangeAt b 0 (chL c)) (h : K (a.put o.dst (.agg (chA c))) w) : o.wpIn F n Tryd.prog a w K Q := by
  have hrun := run_loadAt_mid (P := Tryd.prog) w b 0 108 (chL c) _ hc Tryd.underlying108 rfl (by rw [chL_length]; exact infoCh)
  unfold Oper.wpIn
  refine ⟨by simp [Oper.about, ho], ?_⟩
  rw [Oper.semAt_plain F _ _ (by rw [ho]; intro c hc'; cases hc')]
  simp [execOp, ho, hx, hrun, Result.andThen]
  exact h

/-- behind the images: the round that takes them -/
theorem yld_mid {n : Nat} {ls : List Lk} {fb g : Nat} {A : Option Addr} {cap yb nb l B : Nat} {V W0 w1 : World} {H : Blks} {x : List Int} {v : Value} {R : Blks → Ending → World → Prop} {J : Blks → World → Prop} (hE : Env n ls fb g A cap yb nb (.func (.yield l) #[] #[]) V) (_ : Apart ls fb g yb nb H) (hl : ∀ b, H b → b < V.heap.size)
    (hJ : Foot (fun b => b < B) J) (hB : B ≤ V.heap.size) (hj : J H W0) (hb0 : Below V.heap.size V W0) (ho : OwnI w1 W0.drew.heap.size v x) (hb1 : Below W0.drew.heap.size W0.drew w1)
    (hY : ∀ G, J H w1 → InG G w1 v x → (∀ b, G b → ¬ H b ∧ b < w1.heap.size) → (∀ b, G b → V.heap.size ≤ b) → YieldAt Fence.wide 0 Tryd.prog l #[v] w1 (R G)) :
    w1.cell? ⟨yb, 0, none⟩ = some (.func (.yield l) #[] #[]) ∧ (∀ b, v.ownBlock = some b → V.heap.size ≤ b) ∧ Below V.heap.size V w1 ∧ YieldAt Fence.wide 5 Tryd.prog l #[v] w1 (R fun b => v.ownBlock = some b) := by
  have hs := hb0.size
  have hb : Below V.heap.size V w1 := hb0.drew.trans (hb1.mono (by simpa using hs))
  have hg : ∀ b, v.ownBlock = some b → V.heap.size ≤ b ∧ b < w1.heap.size := fun b hb => by
    have := OwnE.lt ho b hb
    have h2 : W0.drew.heap.size = W0.heap.size := rfl
    omega
  refine ⟨(hE.below hb).y.cell, fun b h => (hg b h).1, hb, YieldAt.anyDepth rfl 5 (hY _ (hJ.keep (V := W0) hj hb1.size fun b h => hb1.block b ?_) (InG.own ho) (fun b h => ⟨fun h2 => ?_, (hg b h).2⟩) fun b h => (hg b h).1)⟩
  · have h2 : W0.drew.heap.size = W0.heap.size := rfl
    rcases h with h | h
    · have := hl b h; omega
    · omega
  · have := hl b h2; have := (hg b h).1; omega
theorem yld_end {n : Nat} {ls : List Lk} {fb g : Nat} {A : Option Addr} {cap yb nb : Nat} {yv : Value} {V w1 w3 : World} {H G H3 : Blks} (hE : Env n ls fb g A cap yb nb yv V) (hA : Apart ls fb g yb nb H) (hb : Below V.heap.size V w1) (hG : ∀ b, G b → V.heap.size ≤ b)
    (hk3 : Keeps (fun b => H b ∨ G b) w1 w3) (hg3 : ∀ b, H3 b → (H b ∨ G b) ∨ w1.heap.size ≤ b) :
    Keeps (fun b => H b ∨ False) V w3 ∧ FinAt w3 fb g A cap ls ∧ ∀ i, H3 i → H i ∨ V.heap.size ≤ i := by
  have hs := hb.size
  have hk : Keeps (fun b => H b ∨ False) V w3 := by
    have h1 : Keeps (fun b => H b ∨ G b) V w3 := (Keeps.of_below' _ hb).trans hk3 fun _ _ h => h
    exact h1.mono fun i hi h => h.elim .inl (fun h => by have := hG i h; omega)
  refine ⟨hk, hE.fin.up hk.size (hk.block _ hE.fin.lt (fun h => h.elim hA.fb id)) (fun h => hk.block _ (hE.fin.at_ 0 h).2.1 (fun h2 => h2.elim (hA.g h) id)), fun i hi => ?_⟩
  rcases hg3 i hi with (h | h) | h
  · exact .inl h
  · exact .inr (hG i h)
  · exact .inr (by omega)

set_option maxRecDepth 100000 in
set_option maxHeartbeats 4000000 in
theorem yielder_any (n : Nat) (hn : n ≤ 40) (ls : List Lk) (fb g : Nat) (A : Option Addr) (cap yb nb l B : Nat) (J : List (List Int) → Blks → World → Prop) (Jx : Blks → World → Prop)
    (hJ : ∀ pre, Foot (fun b => b < B) (J pre)) (xs : List (List Int))
    (hY : ∀ pre x H V G vs, J pre H V → pre ++ [x] <+: xs → RRow B x G V vs → (∀ b, G b → ¬ H b ∧ b < V.heap.size) → YieldAt Fence.wide 0 Tryd.prog l vs V (Turn (fun b => H b ∨ G b) V (J (pre ++ [x])) Jx))
    (pre : List (List Int)) (c : Choices) (H : Blks) (V : World) (hc : Small c) (h0 : ∀ i, i < n → c i ≠ 0) (hx : pre ++ [imgs n c] <+: xs) (hj : J pre H V) (hE : Env n ls fb g A cap yb nb (.func (.yield l) #[] #[]) V) (hB : B ≤ V.heap.size) (hA : Apart ls fb g yb nb H) :
    Calls Tryd.prog 83 #[.agg (chA c), .pointer (some ⟨yb, 0, none⟩), .pointer (some ⟨nb, 0, none⟩)] V (WEnd (fun _ => False) ls fb g A cap H V (J (pre ++ [imgs n c])) Jx) := by
  have himg := images_any n hn c hc h0
  generalize imgs n c = x at hx himg ⊢
  refine (callsIn_wide (n := 6)).1 ?_
  refine callsIn_of_wp_marks Tryd.func83 rfl trivial ?_ rfl
  simp only [Tryd.ntmps83, List.size_toArray, List.length_cons, List.length_nil, Nat.reduceAdd, Nat.reduceSub, Array.replicate_succ, Array.replicate_zero, List.push_toArray, List.append_toArray, List.nil_append, List.cons_append]
  gi_upto_region 1 with fail
  generalize hW0 : V.alloc _ = W0
  have hB0 : Below V.heap.size V W0 := by rw [← hW0]; exact (Below.refl _ _).alloc (Nat.le_refl _) _
  have q0 : ChAt W0 108 V.heap.size c := by rw [← hW0]; exact ChAt.new V _ c
  clear hW0
  have hE0 := hE.below hB0
  have yc := hE0.y.cell
  have nc := hE0.nn.cell
  have HI := Lib.hid (himg W0.drew hE0.pos (hE0.tab.up rfl))
  have HQ0 := Lib.hid q0
  have HB0 := Lib.hid hB0
  have HJ0 := Lib.hid ((hJ pre).below hj (fun b hb => Nat.lt_of_lt_of_le hb hB) hB0)
  have HLT := Lib.hid (fun b (hb : H b) => (hJ pre).lt hj hb)
  have HY := Lib.hid (hY pre x)
  have HX := Lib.hid hx
  have HE := Lib.hid hE
  have HE0 := Lib.hid hE0
  have HA := Lib.hid hA
  have HJ := Lib.hid (hJ pre)
  have HBV := Lib.hid hB
  clear himg hY hj hE hA hJ hE0 q0 hB0 hc h0 hx hB
  refine wpIn_region_any (by kernel_rfl) ?_
  change wpAnyIn _ _ _ _ _ _ _ _ _ (World.drew _)
  refine wpAnyIn_ready (rs := [0, 1, 2]) (by kernel_rfl) (by simp) ?_
  refine (AllReadyIn.cons rfl (fun K hK => ?_) (AllReadyIn.cons rfl (fun K hK => ?_) (AllReadyIn.cons rfl (fun K hK => ?_) AllReadyIn.nil)))
  · go_simp
    refine hK _ _ ?_; clear hK K
    refine wpAnyIn_ready (rs := [1, 2]) (by kernel_rfl) (by simp) ?_
    refine (AllReadyIn.cons rfl (fun K hK => ?_) (AllReadyIn.cons rfl (fun K hK => ?_) AllReadyIn.nil))
    · rw [if_pos (by rfl)]
      refine opIn_load_ch _ rfl V.heap.size c rfl HQ0.out.range ?_
      refine hK _ _ ?_; clear hK K
      refine wpAnyIn_ready (rs := [2]) (by kernel_rfl) (by simp) ?_
      refine (AllReadyIn.cons rfl (fun K hK => ?_) AllReadyIn.nil)
      · go_simp
        refine hK _ _ ?_; clear hK K
        refine wpAnyIn_ready (rs := [3]) (by kernel_rfl) (by simp) ?_
        refine (AllReadyIn.cons rfl (fun K hK => ?_) AllReadyIn.nil)
        · go_simp
          refine ⟨trivial, (callsIn_wide.2 HI.out).mono ?_⟩; rintro e w1 ⟨v, rfl, ho, hb1⟩; obtain ⟨r1, r2, r3, fn, tmps, assign, body, hy, hR⟩ := yld_mid (R := fun G => Turn (fun b => H b ∨ G b) w1 (J (pre ++ [x])) Jx) HE.out HA.out HLT.out HJ.out HBV.out HJ0.out HB0.out ho hb1 (fun G hj hi hg h2 => HY.out H w1 G #[v] hj HX.out ⟨v, rfl, hi, fun b h => Nat.le_trans HBV.out (h2 b h)⟩ hg); have R2 := Lib.hid r2; have R3 := Lib.hid r3; clear ho hb1 r2 r3; refine hK _ _ ?_; clear hK K
          refine wpAnyIn_ready (rs := [4]) (by kernel_rfl) (by simp) ?_
          refine (AllReadyIn.cons rfl (fun K hK => ?_) AllReadyIn.nil)
          · go_simp
            refine hR.mono ?_
            rintro e w3 ⟨hk3, H3, hg3, hd3⟩
            have HK3 := Lib.hid (yld_end HE.out HA.out R3.out R2.out hk3 hg3)
            rcases hd3 with ⟨rfl, hj3⟩ | ⟨rfl, hj3⟩
            · have HEND : Hid (WEnd (fun _ => False) ls fb g A cap H V (J (pre ++ [x])) Jx (.returned (.bool true)) w3) := Lib.hid ⟨HK3.out.1, HK3.out.2.1, H3, true, rfl, HK3.out.2.2, fun _ => hj3, fun h => (by cases h)⟩
              refine hK _ _ ?_; clear hK K hj3
              refine wpAnyIn_ready (rs := [5]) (by kernel_rfl) (by simp) ?_
              refine AllReadyIn.cons rfl (fun K hK => ?_) AllReadyIn.nil
              go_simp
              refine hK _ _ ?_; clear hK K
              refine wpAnyIn_done (by kernel_rfl) ?_ _
              gi_wp2
              exact ⟨_, by simp [results, Tryd.results83, go_sem], HEND.out⟩
            · have HEND : Hid (WEnd (fun _ => False) ls fb g A cap H V (J (pre ++ [x])) Jx (.returned (.bool false)) w3) := Lib.hid ⟨HK3.out.1, HK3.out.2.1, H3, false, rfl, HK3.out.2.2, fun h => (by cases h), fun _ => hj3⟩
              refine hK _ _ ?_; clear hK K hj3
              refine wpAnyIn_ready (rs := [5]) (by kernel_rfl) (by simp) ?_
              refine AllReadyIn.cons rfl (fun K hK => ?_) AllReadyIn.nil
              go_simp
              refine hK _ _ ?_; clear hK K
              refine wpAnyIn_done (by kernel_rfl) ?_ _
              gi_wp2
              exact ⟨_, by simp [results, Tryd.results83, go_sem], HEND.out⟩
    · go_simp
      refine hK _ _ ?_; clear hK K
      refine wpAnyIn_ready (rs := [1]) (by kernel_rfl) (by simp) ?_
      refine (AllReadyIn.cons rfl (fun K hK => ?_) AllReadyIn.nil)
      · rw [if_pos (by rfl)]
        refine opIn_load_ch _ rfl V.heap.size c rfl HQ0.out.range ?_
        refine hK _ _ ?_; clear hK K
        refine wpAnyIn_ready (rs := [3]) (by kernel_rfl) (by simp) ?_
        refine (AllReadyIn.cons rfl (fun K hK => ?_) AllReadyIn.nil)
        · go_simp
          refine ⟨trivial, (callsIn_wide.2 HI.out).mono ?_⟩; rintro e w1 ⟨v, rfl, ho, hb1⟩; obtain ⟨r1, r2, r3, fn, tmps, assign, body, hy, hR⟩ := yld_mid (R := fun G => Turn (fun b => H b ∨ G b) w1 (J (pre ++ [x])) Jx) HE.out HA.out HLT.out HJ.out HBV.out HJ0.out HB0.out ho hb1 (fun G hj hi hg h2 => HY.out H w1 G #[v] hj HX.out ⟨v, rfl, hi, fun b h => Nat.le_trans HBV.out (h2 b h)⟩ hg); have R2 := Lib.hid r2; have R3 := Lib.hid r3; clear ho hb1 r2 r3; refine hK _ _ ?_; clear hK K
          refine wpAnyIn_ready (rs := [4]) (by kernel_rfl) (by simp) ?_
          refine (AllReadyIn.cons rfl (fun K hK => ?_) AllReadyIn.nil)
          · go_simp
            refine hR.mono ?_
            rintro e w3 ⟨hk3, H3, hg3, hd3⟩
            have HK3 := Lib.hid (yld_end HE.out HA.out R3.out R2.out hk3 hg3)
            rcases hd3 with ⟨rfl, hj3⟩ | ⟨rfl, hj3⟩
            · have HEND : Hid (WEnd (fun _ => False) ls fb g A cap H V (J (pre ++ [x])) Jx (.returned (.bool true)) w3) := Lib.hid ⟨HK3.out.1, HK3.out.2.1, H3, true, rfl, HK3.out.2.2, fun _ => hj3, fun h => (by cases h)⟩
              refine hK _ _ ?_; clear hK K hj3
              refine wpAnyIn_ready (rs := [5]) (by kernel_rfl) (by simp) ?_
              refine AllReadyIn.cons rfl (fun K hK => ?_) AllReadyIn.nil
              go_simp
              refine hK _ _ ?_; clear hK K
              refine wpAnyIn_done (by kernel_rfl) ?_ _
              gi_wp2
              exact ⟨_, by simp [results, Tryd.results83, go_sem], HEND.out⟩
            · have HEND : Hid (WEnd (fun _ => False) ls fb g A cap H V (J (pre ++ [x])) Jx (.returned (.bool false)) w3) := Lib.hid ⟨HK3.out.1, HK3.out.2.1, H3, false, rfl, HK3.out.2.2, fun h => (by cases h), fun _ => hj3⟩
              refine hK _ _ ?_; clear hK K hj3
              refine wpAnyIn_ready (rs := [5]) (by kernel_rfl) (by simp) ?_
              refine AllReadyIn.cons rfl (fun K hK => ?_) AllReadyIn.nil
              go_simp
              refine hK _ _ ?_; clear hK K
              refine wpAnyIn_done (by kernel_rfl) ?_ _
              gi_wp2
              exact ⟨_, by simp [results, Tryd.results83, go_sem], HEND.out⟩
  · rw [if_pos (by rfl)]
    refine opIn_load_ch _ rfl V.heap.size c rfl HQ0.out.range ?_
    refine hK _ _ ?_; clear hK K
    refine wpAnyIn_ready (rs := [0, 2]) (by kernel_rfl) (by simp) ?_
    refine (AllReadyIn.cons rfl (fun K hK => ?_) (AllReadyIn.cons rfl (fun K hK => ?_) AllReadyIn.nil))
    · go_simp
      refine hK _ _ ?_; clear hK K
      refine wpAnyIn_ready (rs := [2]) (by kernel_rfl) (by simp) ?_
      refine (AllReadyIn.cons rfl (fun K hK => ?_) AllReadyIn.nil)
      · go_simp
        refine hK _ _ ?_; clear hK K
        refine wpAnyIn_ready (rs := [3]) (by kernel_rfl) (by simp) ?_
        refine (AllReadyIn.cons rfl (fun K hK => ?_) AllReadyIn.nil)
        · go_simp
          refine ⟨trivial, (callsIn_wide.2 HI.out).mono ?_⟩; rintro e w1 ⟨v, rfl, ho, hb1⟩; obtain ⟨r1, r2, r3, fn, tmps, assign, body, hy, hR⟩ := yld_mid (R := fun G => Turn (fun b => H b ∨ G b) w1 (J (pre ++ [x])) Jx) HE.out HA.out HLT.out HJ.out HBV.out HJ0.out HB0.out ho hb1 (fun G hj hi hg h2 => HY.out H w1 G #[v] hj HX.out ⟨v, rfl, hi, fun b h => Nat.le_trans HBV.out (h2 b h)⟩ hg); have R2 := Lib.hid r2; have R3 := Lib.hid r3; clear ho hb1 r2 r3; refine hK _ _ ?_; clear hK K
          refine wpAnyIn_ready (rs := [4]) (by kernel_rfl) (by simp) ?_
          refine (AllReadyIn.cons rfl (fun K hK => ?_) AllReadyIn.nil)
          · go_simp
            refine hR.mono ?_
            rintro e w3 ⟨hk3, H3, hg3, hd3⟩
            have HK3 := Lib.hid (yld_end HE.out HA.out R3.out R2.out hk3 hg3)
            rcases hd3 with ⟨rfl, hj3⟩ | ⟨rfl, hj3⟩
            · have HEND : Hid (WEnd (fun _ => False) ls fb g A cap H V (J (pre ++ [x])) Jx (.returned (.bool true)) w3) := Lib.hid ⟨HK3.out.1, HK3.out.2.1, H3, true, rfl, HK3.out.2.2, fun _ => hj3, fun h => (by cases h)⟩
              refine hK _ _ ?_; clear hK K hj3
              refine wpAnyIn_ready (rs := [5]) (by kernel_rfl) (by simp) ?_
              refine AllReadyIn.cons rfl (fun K hK => ?_) AllReadyIn.nil
              go_simp
              refine hK _ _ ?_; clear hK K
              refine wpAnyIn_done (by kernel_rfl) ?_ _
              gi_wp2
              exact ⟨_, by simp [results, Tryd.results83, go_sem], HEND.out⟩
            · have HEND : Hid (WEnd (fun _ => False) ls fb g A cap H V (J (pre ++ [x])) Jx (.returned (.bool false)) w3) := Lib.hid ⟨HK3.out.1, HK3.out.2.1, H3, false, rfl, HK3.out.2.2, fun h => (by cases h), fun _ => hj3⟩
              refine hK _ _ ?_; clear hK K hj3
              refine wpAnyIn_ready (rs := [5]) (by kernel_rfl) (by simp) ?_
              refine AllReadyIn.cons rfl (fun K hK => ?_) AllReadyIn.nil
              go_simp
              refine hK _ _ ?_; clear hK K
              refine wpAnyIn_done (by kernel_rfl) ?_ _
              gi_wp2
              exact ⟨_, by simp [results, Tryd.results83, go_sem], HEND.out⟩
    · go_simp
      refine hK _ _ ?_; clear hK K
      refine wpAnyIn_ready (rs := [0, 3]) (by kernel_rfl) (by simp) ?_
      refine (AllReadyIn.cons rfl (fun K hK => ?_) (AllReadyIn.cons rfl (fun K hK => ?_) AllReadyIn.nil))
      · go_simp
        refine hK _ _ ?_; clear hK K
        refine wpAnyIn_ready (rs := [3]) (by kernel_rfl) (by simp) ?_
        refine (AllReadyIn.cons rfl (fun K hK => ?_) AllReadyIn.nil)
        · go_simp
          refine ⟨trivial, (callsIn_wide.2 HI.out).mono ?_⟩; rintro e w1 ⟨v, rfl, ho, hb1⟩; obtain ⟨r1, r2, r3, fn, tmps, assign, body, hy, hR⟩ := yld_mid (R := fun G => Turn (fun b => H b ∨ G b) w1 (J (pre ++ [x])) Jx) HE.out HA.out HLT.out HJ.out HBV.out HJ0.out HB0.out ho hb1 (fun G hj hi hg h2 => HY.out H w1 G #[v] hj HX.out ⟨v, rfl, hi, fun b h => Nat.le_trans HBV.out (h2 b h)⟩ hg); have R2 := Lib.hid r2; have R3 := Lib.hid r3; clear ho hb1 r2 r3; refine hK _ _ ?_; clear hK K
          refine wpAnyIn_ready (rs := [4]) (by kernel_rfl) (by simp) ?_
          refine (AllReadyIn.cons rfl (fun K hK => ?_) AllReadyIn.nil)
          · go_simp
            refine hR.mono ?_
            rintro e w3 ⟨hk3, H3, hg3, hd3⟩
            have HK3 := Lib.hid (yld_end HE.out HA.out R3.out R2.out hk3 hg3)
            rcases hd3 with ⟨rfl, hj3⟩ | ⟨rfl, hj3⟩
            · have HEND : Hid (WEnd (fun _ => False) ls fb g A cap H V (J (pre ++ [x])) Jx (.returned (.bool true)) w3) := Lib.hid ⟨HK3.out.1, HK3.out.2.1, H3, true, rfl, HK3.out.2.2, fun _ => hj3, fun h => (by cases h)⟩
              refine hK _ _ ?_; clear hK K hj3
              refine wpAnyIn_ready (rs := [5]) (by kernel_rfl) (by simp) ?_
              refine AllReadyIn.cons rfl (fun K hK => ?_) AllReadyIn.nil
              go_simp
              refine hK _ _ ?_; clear hK K
              refine wpAnyIn_done (by kernel_rfl) ?_ _
              gi_wp2
              exact ⟨_, by simp [results, Tryd.results83, go_sem], HEND.out⟩
            · have HEND : Hid (WEnd (fun _ => False) ls fb g A cap H V (J (pre ++ [x])) Jx (.returned (.bool false)) w3) := Lib.hid ⟨HK3.out.1, HK3.out.2.1, H3, false, rfl, HK3.out.2.2, fun h => (by cases h), fun _ => hj3⟩
              refine hK _ _ ?_; clear hK K hj3
              refine wpAnyIn_ready (rs := [5]) (by kernel_rfl) (by simp) ?_
              refine AllReadyIn.cons rfl (fun K hK => ?_) AllReadyIn.nil
              go_simp
              refine hK _ _ ?_; clear hK K
              refine wpAnyIn_done (by kernel_rfl) ?_ _
              gi_wp2
              exact ⟨_, by simp [results, Tryd.results83, go_sem], HEND.out⟩
      · go_simp
        refine ⟨trivial, (callsIn_wide.2 HI.out).mono ?_⟩; rintro e w1 ⟨v, rfl, ho, hb1⟩; obtain ⟨r1, r2, r3, fn, tmps, assign, body, hy, hR⟩ := yld_mid (R := fun G => Turn (fun b => H b ∨ G b) w1 (J (pre ++ [x])) Jx) HE.out HA.out HLT.out HJ.out HBV.out HJ0.out HB0.out ho hb1 (fun G hj hi hg h2 => HY.out H w1 G #[v] hj HX.out ⟨v, rfl, hi, fun b h => Nat.le_trans HBV.out (h2 b h)⟩ hg); have R2 := Lib.hid r2; have R3 := Lib.hid r3; clear ho hb1 r2 r3; refine hK _ _ ?_; clear hK K
        refine wpAnyIn_ready (rs := [0]) (by kernel_rfl) (by simp) ?_
        refine (AllReadyIn.cons rfl (fun K hK => ?_) AllReadyIn.nil)
        · go_simp
          refine hK _ _ ?_; clear hK K
          refine wpAnyIn_ready (rs := [4]) (by kernel_rfl) (by simp) ?_
          refine (AllReadyIn.cons rfl (fun K hK => ?_) AllReadyIn.nil)
          · go_simp
            refine hR.mono ?_
            rintro e w3 ⟨hk3, H3, hg3, hd3⟩
            have HK3 := Lib.hid (yld_end HE.out HA.out R3.out R2.out hk3 hg3)
            rcases hd3 with ⟨rfl, hj3⟩ | ⟨rfl, hj3⟩
            · have HEND : Hid (WEnd (fun _ => False) ls fb g A cap H V (J (pre ++ [x])) Jx (.returned (.bool true)) w3) := Lib.hid ⟨HK3.out.1, HK3.out.2.1, H3, true, rfl, HK3.out.2.2, fun _ => hj3, fun h => (by cases h)⟩
              refine hK _ _ ?_; clear hK K hj3
              refine wpAnyIn_ready (rs := [5]) (by kernel_rfl) (by simp) ?_
              refine AllReadyIn.cons rfl (fun K hK => ?_) AllReadyIn.nil
              go_simp
              refine hK _ _ ?_; clear hK K
              refine wpAnyIn_done (by kernel_rfl) ?_ _
              gi_wp2
              exact ⟨_, by simp [results, Tryd.results83, go_sem], HEND.out⟩
            · have HEND : Hid (WEnd (fun _ => False) ls fb g A cap H V (J (pre ++ [x])) Jx (.returned (.bool false)) w3) := Lib.hid ⟨HK3.out.1, HK3.out.2.1, H3, false, rfl, HK3.out.2.2, fun h => (by cases h), fun _ => hj3⟩
              refine hK _ _ ?_; clear hK K hj3
              refine wpAnyIn_ready (rs := [5]) (by kernel_rfl) (by simp) ?_
              refine AllReadyIn.cons rfl (fun K hK => ?_) AllReadyIn.nil
              go_simp
              refine hK _ _ ?_; clear hK K
              refine wpAnyIn_done (by kernel_rfl) ?_ _
              gi_wp2
              exact ⟨_, by simp [results, Tryd.results83, go_sem], HEND.out⟩
  · go_simp
    refine hK _ _ ?_; clear hK K
    refine wpAnyIn_ready (rs := [0, 1]) (by kernel_rfl) (by simp) ?_
    refine (AllReadyIn.cons rfl (fun K hK => ?_) (AllReadyIn.cons rfl (fun K hK => ?_) AllReadyIn.nil))
    · go_simp
      refine hK _ _ ?_; clear hK K
      refine wpAnyIn_ready (rs := [1]) (by kernel_rfl) (by simp) ?_
      refine (AllReadyIn.cons rfl (fun K hK => ?_) AllReadyIn.nil)
      · rw [if_pos (by rfl)]
        refine opIn_load_ch _ rfl V.heap.size c rfl HQ0.out.range ?_
        refine hK _ _ ?_; clear hK K
        refine wpAnyIn_ready (rs := [3]) (by kernel_rfl) (by simp) ?_
        refine (AllReadyIn.cons rfl (fun K hK => ?_) AllReadyIn.nil)
        · go_simp
          refine ⟨trivial, (callsIn_wide.2 HI.out).mono ?_⟩; rintro e w1 ⟨v, rfl, ho, hb1⟩; obtain ⟨r1, r2, r3, fn, tmps, assign, body, hy, hR⟩ := yld_mid (R := fun G => Turn (fun b => H b ∨ G b) w1 (J (pre ++ [x])) Jx) HE.out HA.out HLT.out HJ.out HBV.out HJ0.out HB0.out ho hb1 (fun G hj hi hg h2 => HY.out H w1 G #[v] hj HX.out ⟨v, rfl, hi, fun b h => Nat.le_trans HBV.out (h2 b h)⟩ hg); have R2 := Lib.hid r2; have R3 := Lib.hid r3; clear ho hb1 r2 r3; refine hK _ _ ?_; clear hK K
          refine wpAnyIn_ready (rs := [4]) (by kernel_rfl) (by simp) ?_
          refine (AllReadyIn.cons rfl (fun K hK => ?_) AllReadyIn.nil)
          · go_simp
            refine hR.mono ?_
            rintro e w3 ⟨hk3, H3, hg3, hd3⟩
            have HK3 := Lib.hid (yld_end HE.out HA.out R3.out R2.out hk3 hg3)
            rcases hd3 with ⟨rfl, hj3⟩ | ⟨rfl, hj3⟩
            · have HEND : Hid (WEnd (fun _ => False) ls fb g A cap H V (J (pre ++ [x])) Jx (.returned (.bool true)) w3) := Lib.hid ⟨HK3.out.1, HK3.out.2.1, H3, true, rfl, HK3.out.2.2, fun _ => hj3, fun h => (by cases h)⟩
              refine hK _ _ ?_; clear hK K hj3
              refine wpAnyIn_ready (rs := [5]) (by kernel_rfl) (by simp) ?_
              refine AllReadyIn.cons rfl (fun K hK => ?_) AllReadyIn.nil
              go_simp
              refine hK _ _ ?_; clear hK K
              refine wpAnyIn_done (by kernel_rfl) ?_ _
              gi_wp2
              exact ⟨_, by simp [results, Tryd.results83, go_sem], HEND.out⟩
            · have HEND : Hid (WEnd (fun _ => False) ls fb g A cap H V (J (pre ++ [x])) Jx (.returned (.bool false)) w3) := Lib.hid ⟨HK3.out.1, HK3.out.2.1, H3, false, rfl, HK3.out.2.2, fun h => (by cases h), fun _ => hj3⟩
              refine hK _ _ ?_; clear hK K hj3
              refine wpAnyIn_ready (rs := [5]) (by kernel_rfl) (by simp) ?_
              refine AllReadyIn.cons rfl (fun K hK => ?_) AllReadyIn.nil
              go_simp
              refine hK _ _ ?_; clear hK K
              refine wpAnyIn_done (by kernel_rfl) ?_ _
              gi_wp2
              exact ⟨_, by simp [results, Tryd.results83, go_sem], HEND.out⟩
    · rw [if_pos (by rfl)]
      refine opIn_load_ch _ rfl V.heap.size c rfl HQ0.out.range ?_
      refine hK _ _ ?_; clear hK K
      refine wpAnyIn_ready (rs := [0, 3]) (by kernel_rfl) (by simp) ?_
      refine (AllReadyIn.cons rfl (fun K hK => ?_) (AllReadyIn.cons rfl (fun K hK => ?_) AllReadyIn.nil))
      · go_simp
        refine hK _ _ ?_; clear hK K
        refine wpAnyIn_ready (rs := [3]) (by kernel_rfl) (by simp) ?_
        refine (AllReadyIn.cons rfl (fun K hK => ?_) AllReadyIn.nil)
        · go_simp
          refine ⟨trivial, (callsIn_wide.2 HI.out).mono ?_⟩; rintro e w1 ⟨v, rfl, ho, hb1⟩; obtain ⟨r1, r2, r3, fn, tmps, assign, body, hy, hR⟩ := yld_mid (R := fun G => Turn (fun b => H b ∨ G b) w1 (J (pre ++ [x])) Jx) HE.out HA.out HLT.out HJ.out HBV.out HJ0.out HB0.out ho hb1 (fun G hj hi hg h2 => HY.out H w1 G #[v] hj HX.out ⟨v, rfl, hi, fun b h => Nat.le_trans HBV.out (h2 b h)⟩ hg); have R2 := Lib.hid r2; have R3 := Lib.hid r3; clear ho hb1 r2 r3; refine hK _ _ ?_; clear hK K
          refine wpAnyIn_ready (rs := [4]) (by kernel_rfl) (by simp) ?_
          refine (AllReadyIn.cons rfl (fun K hK => ?_) AllReadyIn.nil)
          · go_simp
            refine hR.mono ?_
            rintro e w3 ⟨hk3, H3, hg3, hd3⟩
            have HK3 := Lib.hid (yld_end HE.out HA.out R3.out R2.out hk3 hg3)
            rcases hd3 with ⟨rfl, hj3⟩ | ⟨rfl, hj3⟩
            · have HEND : Hid (WEnd (fun _ => False) ls fb g A cap H V (J (pre ++ [x])) Jx (.returned (.bool true)) w3) := Lib.hid ⟨HK3.out.1, HK3.out.2.1, H3, true, rfl, HK3.out.2.2, fun _ => hj3, fun h => (by cases h)⟩
              refine hK _ _ ?_; clear hK K hj3
              refine wpAnyIn_ready (rs := [5]) (by kernel_rfl) (by simp) ?_
              refine AllReadyIn.cons rfl (fun K hK => ?_) AllReadyIn.nil
              go_simp
              refine hK _ _ ?_; clear hK K
              refine wpAnyIn_done (by kernel_rfl) ?_ _
              gi_wp2
              exact ⟨_, by simp [results, Tryd.results83, go_sem], HEND.out⟩
            · have HEND : Hid (WEnd (fun _ => False) ls fb g A cap H V (J (pre ++ [x])) Jx (.returned (.bool false)) w3) := Lib.hid ⟨HK3.out.1, HK3.out.2.1, H3, false, rfl, HK3.out.2.2, fun h => (by cases h), fun _ => hj3⟩
              refine hK _ _ ?_; clear hK K hj3
              refine wpAnyIn_ready (rs := [5]) (by kernel_rfl) (by simp) ?_
              refine AllReadyIn.cons rfl (fun K hK => ?_) AllReadyIn.nil
              go_simp
              refine hK _ _ ?_; clear hK K
              refine wpAnyIn_done (by kernel_rfl) ?_ _
              gi_wp2
              exact ⟨_, by simp [results, Tryd.results83, go_sem], HEND.out⟩
      · go_simp
        refine ⟨trivial, (callsIn_wide.2 HI.out).mono ?_⟩; rintro e w1 ⟨v, rfl, ho, hb1⟩; obtain ⟨r1, r2, r3, fn, tmps, assign, body, hy, hR⟩ := yld_mid (R := fun G => Turn (fun b => H b ∨ G b) w1 (J (pre ++ [x])) Jx) HE.out HA.out HLT.out HJ.out HBV.out HJ0.out HB0.out ho hb1 (fun G hj hi hg h2 => HY.out H w1 G #[v] hj HX.out ⟨v, rfl, hi, fun b h => Nat.le_trans HBV.out (h2 b h)⟩ hg); have R2 := Lib.hid r2; have R3 := Lib.hid r3; clear ho hb1 r2 r3; refine hK _ _ ?_; clear hK K
        refine wpAnyIn_ready (rs := [0]) (by kernel_rfl) (by simp) ?_
        refine (AllReadyIn.cons rfl (fun K hK => ?_) AllReadyIn.nil)
        · go_simp
          refine hK _ _ ?_; clear hK K
          refine wpAnyIn_ready (rs := [4]) (by kernel_rfl) (by simp) ?_
          refine (AllReadyIn.cons rfl (fun K hK => ?_) AllReadyIn.nil)
          · go_simp
            refine hR.mono ?_
            rintro e w3 ⟨hk3, H3, hg3, hd3⟩
            have HK3 := Lib.hid (yld_end HE.out HA.out R3.out R2.out hk3 hg3)
            rcases hd3 with ⟨rfl, hj3⟩ | ⟨rfl, hj3⟩
            · have HEND : Hid (WEnd (fun _ => False) ls fb g A cap H V (J (pre ++ [x])) Jx (.returned (.bool true)) w3) := Lib.hid ⟨HK3.out.1, HK3.out.2.1, H3, true, rfl, HK3.out.2.2, fun _ => hj3, fun h => (by cases h)⟩
              refine hK _ _ ?_; clear hK K hj3
              refine wpAnyIn_ready (rs := [5]) (by kernel_rfl) (by simp) ?_
              refine AllReadyIn.cons rfl (fun K hK => ?_) AllReadyIn.nil
              go_simp
              refine hK _ _ ?_; clear hK K
              refine wpAnyIn_done (by kernel_rfl) ?_ _
              gi_wp2
              exact ⟨_, by simp [results, Tryd.results83, go_sem], HEND.out⟩
            · have HEND : Hid (WEnd (fun _ => False) ls fb g A cap H V (J (pre ++ [x])) Jx (.returned (.bool false)) w3) := Lib.hid ⟨HK3.out.1, HK3.out.2.1, H3, false, rfl, HK3.out.2.2, fun h => (by cases h), fun _ => hj3⟩
              refine hK _ _ ?_; clear hK K hj3
              refine wpAnyIn_ready (rs := [5]) (by kernel_rfl) (by simp) ?_
              refine AllReadyIn.cons rfl (fun K hK => ?_) AllReadyIn.nil
              go_simp
              refine hK _ _ ?_; clear hK K
              refine wpAnyIn_done (by kernel_rfl) ?_ _
              gi_wp2
              exact ⟨_, by simp [results, Tryd.results83, go_sem], HEND.out⟩

end Go.Proofs.YtaeelanbkdkppaaDoor

