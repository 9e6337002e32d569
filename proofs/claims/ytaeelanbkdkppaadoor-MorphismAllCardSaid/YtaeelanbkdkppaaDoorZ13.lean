import Derived.Test.YtaeelanbkdkppaaDoorZ01
import Derived.Test.YtaeelanbkdkppaaDoorProg
import Derived.WalkKit
import Derived.WalkSpells
import Derived.WalkLawsBesides
import Derived.Lib.Hide
import Derived.BigQuiet
import Derived.Deep.QuietTactic
import Derived.StillTailTactics
import Derived.IntWalk
import Derived.ArgAppend
import Derived.Test.YtaeelanbkdkppaaDoorZ10
import Derived.Test.YtaeelanbkdkppaaDoorZ06
import Derived.Test.YtaeelanbkdkppaaDoorZ12
import Derived.Test.YtaeelanbkdkppaaDoorZ11
/-
  Contracts of partition's Generate and Quotient (stage 2's texts, for the functions that graph calls).
-/
namespace Go.Proofs.YtaeelanbkdkppaaDoor.Pt
open Go.RowKit


theorem ret_bool {a b : Bool} (h : a = b) : Ending.returned (.bool a) = .returned (.bool b) := by rw [h]
theorem ret_int {k : IntKind} {a b : Int} (h : a = b) : Ending.returned (.int k a) = .returned (.int k b) := by rw [h]

def toI (ys : List Nat) : List Int := ys.map fun n : Nat => (n : Int)
theorem toI_length (ys : List Nat) : (toI ys).length = ys.length := by simp [toI]
theorem toI_get? (ys : List Nat) (i : Nat) : (toI ys)[i]? = ys[i]?.map fun n : Nat => (n : Int) := by simp [toI]
theorem toI_at (ys : List Nat) (i : Nat) : (toI ys).getD i 0 = (at_ ys i : Int) := by
  simp only [List.getD, toI_get?, at_]
  cases ys[i]? <;> simp
theorem toI_inj {a b : List Nat} (h : toI a = toI b) : a = b := by
  have hl : a.length = b.length := by have := congrArg List.length h; simpa [toI] using this
  apply ext_at hl
  intro i _
  have := congrArg (fun l => l.getD i (0 : Int)) h
  simp only [toI_at] at this
  omega

/-- the slice at A reads as xs, in a block below B -/
def Ints (w : World) (B : Nat) (A : Option Addr) (xs : List Int) : Prop :=
  xs = [] ∨ ∃ b off, A = some ⟨b, off, none⟩ ∧ b < B ∧ ∀ i x, xs[i]? = some x → w.cell? ⟨b, off + i, none⟩ = some (.int .i64 x)

theorem getD_get {xs : List Int} {i : Nat} (h : i < xs.length) : xs[i]? = some (xs.getD i 0) := by simp [List.getD, h]

theorem Ints.at {w : World} {B : Nat} {A : Option Addr} {xs : List Int} (h : Ints w B A xs) {k : Nat} (hk : k < xs.length) :
    ∃ b off, A = some ⟨b, off, none⟩ ∧ b < B ∧ ∀ i, i < xs.length → w.cell? ⟨b, off + i, none⟩ = some (.int .i64 (xs.getD i 0)) := by
  rcases h with h | ⟨b, off, h1, h2, h3⟩
  · subst h; simp at hk
  · exact ⟨b, off, h1, h2, fun i hi => h3 i _ (getD_get hi)⟩

theorem Ints.atN {w : World} {B : Nat} {A : Option Addr} {ys : List Nat} (h : Ints w B A (toI ys)) {k : Nat} (hk : k < ys.length) :
    ∃ b off, A = some ⟨b, off, none⟩ ∧ b < B ∧ ∀ i, i < ys.length → w.cell? ⟨b, off + i, none⟩ = some (.int .i64 (at_ ys i : Nat)) := by
  obtain ⟨b, off, h1, h2, h3⟩ := h.at (k := k) (by rw [toI_length]; exact hk)
  exact ⟨b, off, h1, h2, fun i hi => by rw [h3 i (by rw [toI_length]; exact hi), toI_at]⟩

theorem Ints.below {w w' : World} {B : Nat} {A : Option Addr} {xs : List Int} (h : Ints w B A xs) (hb : Below B w w') : Ints w' B A xs := by
  rcases h with h | ⟨b, off, h1, h2, h3⟩
  · exact .inl h
  · exact .inr ⟨b, off, h1, h2, fun i x hx => (hb.cell (p := ⟨b, off + i, none⟩) h2).trans (h3 i x hx)⟩
theorem Ints.mono {w : World} {B B' : Nat} {A : Option Addr} {xs : List Int} (h : Ints w B A xs) (hb : B ≤ B') : Ints w B' A xs := by
  rcases h with h | ⟨b, off, h1, h2, h3⟩
  · exact .inl h
  · exact .inr ⟨b, off, h1, by omega, h3⟩
theorem Ints.up {w w' : World} {A : Option Addr} {xs : List Int} (h : Ints w w.heap.size A xs) (hb : Below w.heap.size w w') : Ints w' w'.heap.size A xs :=
  (h.below hb).mono hb.size

/-- the cells of ints -/
def cellsI (xs : List Int) : List Value := xs.map (Value.int .i64)
def cellsN (ys : List Nat) : List Value := ys.map fun n : Nat => Value.int .i64 (n : Int)
theorem cellsI_toI (ys : List Nat) : cellsI (toI ys) = cellsN ys := by simp [cellsI, toI, cellsN]
theorem cellsN_length (ys : List Nat) : (cellsN ys).length = ys.length := by simp [cellsN]
theorem cellsN_snoc (ys : List Nat) (n : Nat) : cellsN (ys ++ [n]) = cellsN ys ++ [.int .i64 (n : Int)] := by simp [cellsN]
theorem cellsN_set (ys : List Nat) (j n : Nat) : (cellsN ys).set j (.int .i64 (n : Int)) = cellsN (ys.set j n) := by simp [cellsN, List.map_set]
theorem cellsN_get {ys : List Nat} {i : Nat} (h : i < ys.length) : (cellsN ys)[i]? = some (.int .i64 (at_ ys i : Nat)) := by simp [cellsN, at_, h]
theorem cellsN_replicate (n : Nat) : cellsN (List.replicate n 0) = List.replicate n (.int .i64 0) := by simp [cellsN]
theorem cellsI_one (xs : List Int) : ∀ u ∈ cellsI xs, u.oneCell' = true := by
  intro u hu
  simp only [cellsI, List.mem_map] at hu
  obtain ⟨x, _, rfl⟩ := hu
  rfl

theorem addr_plain (b off j : Nat) : (⟨b, off, none⟩ : Addr).add j = ⟨b, off + j, none⟩ := Addr.add_lit _ _ _

theorem slice_of {w : World} {base : Nat} {e : TypeId} {size : Nat} {v : Value} {n : Nat} {xs : List Value} (h : w.ownsRow base e size v n xs) : ∃ ao cap, v = .slice ao n cap := by
  rcases h.2 with ⟨hv, h0⟩ | ⟨g, cap, cur, hv, _⟩
  · exact ⟨none, 0, by rw [hv, h0]⟩
  · exact ⟨_, _, hv⟩

/-- a slice that a call made -/
abbrev Own (w : World) (base : Nat) (v : Value) (ys : List Nat) : Prop := w.ownsRow base 3 1 v ys.length (cellsN ys)

theorem Own.ints {w : World} {base : Nat} {v : Value} {ys : List Nat} (h : Own w base v ys) : ∃ A c, v = .slice A ys.length c ∧ Ints w w.heap.size A (toI ys) := by
  have h0 := h
  rcases h.2 with ⟨hv, hn⟩ | ⟨g, cap, cur, hv, hb, hg, _⟩
  · exact ⟨none, 0, by rw [hv, hn], .inl (by rw [List.eq_nil_of_length_eq_zero hn]; rfl)⟩
  · refine ⟨_, _, hv, .inr ⟨g, 0, rfl, (h0.lt g (by rw [hv]; rfl)).2, fun i x hx => ?_⟩⟩
    have hc := h0.cells (g := g) (by rw [hv]; rfl)
    rw [toI_get?] at hx
    have hi : i < ys.length := by
      rcases Nat.lt_or_ge i ys.length with h1 | h1
      · exact h1
      · rw [List.getElem?_eq_none h1] at hx; cases hx
    rw [at_get? hi] at hx
    simp at hx
    have := hc i _ (cellsN_get hi)
    rw [addr_plain] at this
    rw [this, hx]

theorem Own.below {w w' : World} {base B : Nat} {v : Value} {ys : List Nat} (h : Own w base v ys) (hb : Below B w w') (hB : w.heap.size ≤ B) : Own w' base v ys := by
  refine ⟨h.1, ?_⟩
  rcases h.2 with hn | ⟨g, cap, cur, hv, hbg, hg, rest⟩
  · exact .inl hn
  · exact .inr ⟨g, cap, cur, hv, hbg, by rw [hb.block g (Nat.lt_of_lt_of_le (h.lt g (by rw [hv]; rfl)).2 hB)]; exact hg, rest⟩

theorem below_draws {B : Nat} {a w : World} (h : Below B a w) (n : Nat) : Below B a (w.drewN n) := ⟨h.os, h.tape, h.output, h.size, h.block⟩

theorem infoInt : (Tryd.prog.info? 3).map (fun i => (i.zero, i.size, i.bytes)) = some (some (.int .i64 0), 1, 8) := by kernel_rfl



def okI (xs : List Int) (i : Nat) : Bool := decide (0 ≤ xs.getD i 0) && decide (xs.getD i 0 ≤ i) && xs.getD (xs.getD i 0).toNat 0 == xs.getD i 0
def validI (xs : List Int) : Bool := decide (∀ i, i < xs.length → okI xs i = true)
def checkS (xs : List Int) : Nat := if 80 < xs.length then 3 else if validI xs then 0 else 1

theorem validI_iff {xs : List Int} : validI xs = true ↔ ∀ i, i < xs.length → okI xs i = true := by simp [validI]
theorem valid_bad {xs : List Int} {i : Nat} (h : i < xs.length) (hb : okI xs i = false) : validI xs = false := by
  rw [Bool.eq_false_iff]
  intro hv
  rw [validI_iff.1 hv i h] at hb
  cases hb
theorem okI_low {xs : List Int} {i : Nat} (h : xs.getD i 0 < 0) : okI xs i = false := by unfold okI; rw [decide_eq_false (by omega)]; rfl
theorem okI_high {xs : List Int} {i : Nat} (h : (i : Int) < xs.getD i 0) : okI xs i = false := by unfold okI; rw [decide_eq_false (p := xs.getD i 0 ≤ i) (by omega)]; simp
theorem okI_mid {xs : List Int} {i n : Nat} (h : xs.getD i 0 = n) (hn : n ≤ i) : okI xs i = (xs.getD n 0 == (n : Int)) := by
  unfold okI
  rw [h, decide_eq_true (by omega), decide_eq_true (by omega)]
  simp
theorem okI_toI {ys : List Nat} (h : V ys) {i : Nat} (hi : i < ys.length) : okI (toI ys) i = true := by
  have h1 := h.le hi
  have h2 := h.idem hi
  rw [okI_mid (n := at_ ys i) (toI_at ys i) h1, toI_at, h2]
  simp
theorem valid_toI {ys : List Nat} (h : V ys) : validI (toI ys) = true := validI_iff.2 fun i hi => okI_toI h (by rw [toI_length] at hi; exact hi)

theorem valid_nat {xs : List Int} (h : validI xs = true) : ∃ ys : List Nat, xs = toI ys ∧ V ys := by
  have hv := validI_iff.1 h
  have hb : ∀ i, i < xs.length → ∃ n : Nat, xs.getD i 0 = n ∧ n ≤ i ∧ xs.getD n 0 = n := by
    intro i hi
    have := hv i hi
    simp only [okI, Bool.and_eq_true, decide_eq_true_eq, beq_iff_eq] at this
    obtain ⟨⟨h1, h2⟩, h3⟩ := this
    refine ⟨(xs.getD i 0).toNat, by omega, by omega, ?_⟩
    rw [h3]
    omega
  refine ⟨xs.map Int.toNat, ?_, ?_⟩
  · apply List.ext_getElem (by simp [toI])
    intro i h1 h2
    obtain ⟨n, hn, _⟩ := hb i h1
    have e : xs[i] = xs.getD i 0 := by simp [List.getD, h1]
    simp only [toI, List.map_map, List.getElem_map, Function.comp_apply, e, hn]
    rfl
  · intro i hi
    simp only [List.length_map] at hi
    have e : ∀ j, j < xs.length → at_ (xs.map Int.toNat) j = (xs.getD j 0).toNat := by
      intro j hj
      simp [at_, List.getD, hj]
    obtain ⟨n, hn, hle, hid⟩ := hb i hi
    rw [e i hi, hn, Int.toNat_natCast, e n (by omega), hid, Int.toNat_natCast]
    exact ⟨hle, rfl⟩

theorem checkS_long {xs : List Int} (h : 80 < xs.length) : checkS xs = 3 := by unfold checkS; rw [if_pos h]
theorem checkS_ok {xs : List Int} (h : xs.length ≤ 80) (hv : validI xs = true) : checkS xs = 0 := by unfold checkS; rw [if_neg (by omega), if_pos hv]
theorem checkS_bad {xs : List Int} (h : xs.length ≤ 80) (hv : validI xs = false) : checkS xs = 1 := by unfold checkS; rw [if_neg (by omega), hv]; rfl
theorem checkS_cases (xs : List Int) : checkS xs = 3 ∧ 80 < xs.length ∨ checkS xs = 1 ∨ (checkS xs = 0 ∧ xs.length ≤ 80 ∧ validI xs = true) := by
  by_cases h : 80 < xs.length
  · exact .inl ⟨checkS_long h, h⟩
  · cases hv : validI xs with
    | false => exact .inr (.inl (checkS_bad (by omega) hv))
    | true => exact .inr (.inr ⟨checkS_ok (by omega) hv, by omega, rfl⟩)

/-- the error of two lists that have tq be partitions of one length -/
def bothS (a b : List Int) : Nat :=
  if 80 < a.length ∨ 80 < b.length then 3 else if validI a = false ∨ validI b = false then 1 else if a.length ≠ b.length then 20 else 0

theorem bothS_cases (a b : List Int) : (bothS a b = 3 ∧ (80 < a.length ∨ a.length ≤ 80 ∧ 80 < b.length)) ∨
    (bothS a b = 1 ∧ a.length ≤ 80 ∧ b.length ≤ 80 ∧ (validI a = false ∨ validI a = true ∧ validI b = false)) ∨
    (bothS a b = 20 ∧ a.length ≤ 80 ∧ b.length ≤ 80 ∧ validI a = true ∧ validI b = true ∧ a.length ≠ b.length) ∨
    (bothS a b = 0 ∧ a.length ≤ 80 ∧ b.length ≤ 80 ∧ validI a = true ∧ validI b = true ∧ a.length = b.length) := by
  unfold bothS
  by_cases h1 : 80 < a.length
  · simp [h1]
  · by_cases h2 : 80 < b.length
    · simp [h1, h2]; omega
    · cases ha : validI a <;> cases hb : validI b <;> by_cases hl : a.length = b.length <;> simp [h1, h2, hl] <;> omega

def sizeS (n m : Int) : Nat := if m < n then 3 else if n < 0 then 6 else 0
theorem grown_trans {a b c : World} {r : Option Nat} (h : a.grownBy b r) (k : b.grownBy c r) : a.grownBy c r :=
  ⟨k.os.trans h.os, k.tape.trans h.tape, k.output.trans h.output, Nat.le_trans h.size k.size, fun i hi hr => (k.block i (Nat.lt_of_lt_of_le hi h.size) hr).trans (h.block i hi hr)⟩
theorem grown_refl (a : World) (r : Option Nat) : a.grownBy a r := ⟨rfl, rfl, rfl, Nat.le_refl _, fun _ _ _ => rfl⟩
theorem grown_draws (a : World) (n : Nat) (r : Option Nat) : a.grownBy (a.drewN n) r := ⟨rfl, rfl, rfl, Nat.le_refl _, fun _ _ _ => rfl⟩
theorem grown_below {w w' : World} {g base : Nat} (h : w.grownBy w' (some g)) (hg : base ≤ g) (hb : base ≤ w.heap.size) : Below base w w' :=
  (Below.refl base w).grown h hb (by intro k hk; cases hk; exact hg)

/-- f applied tq the first j -/
def mapTo (f : Nat → Nat) (j : Nat) (ys : List Nat) : List Nat := (ys.take j).map f ++ ys.drop j
theorem mapTo_zero (f : Nat → Nat) (ys : List Nat) : mapTo f 0 ys = ys := by simp [mapTo]
theorem mapTo_all (f : Nat → Nat) (ys : List Nat) {j : Nat} (h : ys.length ≤ j) : mapTo f j ys = ys.map f := by
  unfold mapTo
  rw [List.take_of_length_le h, List.drop_eq_nil_of_le h, List.append_nil]
theorem mapTo_length (f : Nat → Nat) (j : Nat) (ys : List Nat) : (mapTo f j ys).length = ys.length := by simp [mapTo]; omega
theorem mapTo_at (f : Nat → Nat) {j : Nat} {ys : List Nat} : at_ (mapTo f j ys) j = at_ ys j := by
  unfold mapTo at_
  rcases Nat.lt_or_ge j ys.length with h | h
  · simp [List.getD, List.getElem?_append, Nat.min_eq_left (Nat.le_of_lt h)]
  · have : ((ys.take j).map f ++ ys.drop j).length ≤ j := by simp; omega
    rw [List.getD_eq_getElem?_getD, List.getD_eq_getElem?_getD, List.getElem?_eq_none this, List.getElem?_eq_none h]
theorem mapTo_set (f : Nat → Nat) {j : Nat} {ys : List Nat} (h : j < ys.length) : (mapTo f j ys).set j (f (at_ ys j)) = mapTo f (j + 1) ys := by
  unfold mapTo
  rw [List.take_succ_eq_append_getElem h, List.map_append, List.set_append_right _ _ (by simp; omega)]
  have e : j - ((ys.take j).map f).length = 0 := by simp; omega
  rw [e, List.drop_eq_getElem_cons h, List.set_cons_zero]
  simp [at_, h]
theorem mapTo_keep (f : Nat → Nat) {j : Nat} {ys : List Nat} (h : j < ys.length) (hf : f (at_ ys j) = at_ ys j) : mapTo f (j + 1) ys = mapTo f j ys := by
  rw [← mapTo_set f h, hf]
  apply List.ext_getElem (by simp)
  intro i h1 h2
  rw [List.getElem_set]
  split
  · subst i
    have := mapTo_at f (j := j) (ys := ys)
    simp only [at_, List.getD, List.getElem?_eq_getElem h2] at this
    simp only [at_, List.getD]
    simpa using this.symm
  · rfl

theorem Own.cell {w : World} {base g c : Nat} {ys : List Nat} (h : Own w base (.slice (some ⟨g, 0, none⟩) ys.length c) ys) {j : Nat} (hj : j < ys.length) : w.cell? ⟨g, j, none⟩ = some (.int .i64 (at_ ys j : Nat)) := by
  rw [World.ownsRow.cellAt h j (by omega), cellsN_get hj]
theorem Own.set {w : World} {base g c n : Nat} {ys : List Nat} (hn : n = ys.length) (h : Own w base (.slice (some ⟨g, 0, none⟩) n c) ys) (j m : Nat) :
    Own (w.setCell ⟨g, j, none⟩ (.int .i64 (m : Int))) base (.slice (some ⟨g, 0, none⟩) n c) (ys.set j m) ∧ w.grownBy (w.setCell ⟨g, j, none⟩ (.int .i64 (m : Int))) (some g) := by
  subst hn
  have := World.ownsRow.stored h j (.int .i64 (m : Int))
  rw [cellsN_set] at this
  refine ⟨?_, this.2⟩
  have e : (ys.set j m).length = ys.length := by simp
  unfold Own
  rw [e]
  exact this.1
theorem Own.grown {w w' : World} {base g : Nat} {v : Value} {ys : List Nat} (h : Own w base v ys) (hg : w.grownBy w' (some g)) (hne : v.ownBlock ≠ some g) : Own w' base v ys := World.ownsRow.kept h hg (.inr hne)

def toLow (lo hi : Nat) (x : Nat) : Nat := if x = hi then lo else x
theorem mergeS_lt {ys : List Nat} {i k : Nat} (h : at_ ys i < at_ ys k) : mergeS ys i k = ys.map (toLow (at_ ys i) (at_ ys k)) := by
  unfold mergeS toLow
  rw [Nat.max_eq_right (Nat.le_of_lt h), Nat.min_eq_left (Nat.le_of_lt h)]
theorem mergeS_gt {ys : List Nat} {i k : Nat} (h : at_ ys k < at_ ys i) : mergeS ys i k = ys.map (toLow (at_ ys k) (at_ ys i)) := by
  unfold mergeS toLow
  rw [Nat.max_eq_left (Nat.le_of_lt h), Nat.min_eq_right (Nat.le_of_lt h)]
theorem mergeS_eq {ys : List Nat} {i k : Nat} (h : at_ ys i = at_ ys k) : mergeS ys i k = ys := by
  unfold mergeS
  rw [h, Nat.max_self, Nat.min_self]
  have : (fun x => if x = at_ ys k then at_ ys k else x) = id := by
    funext x
    show (if x = at_ ys k then at_ ys k else x) = x
    split
    · rename_i e; exact e.symm
    · rfl
  rw [this, List.map_id]

theorem Own.lt' {w : World} {base : Nat} {v : Value} {ys : List Nat} (h : Own w base v ys) : ∀ k, v.ownBlock = some k → base ≤ k := fun k hk => (h.lt k hk).1

theorem wpList_append_int {w : World} {ops : Array Oper} {rest : List Oper} {o : Oper} {a : Act} {Q : Exit → Act → World → Prop} (hgd : o.guard = none) (s x : Operand)
    (ho : o.op = .call { callee := .builtin .append, args := #[s, x], argTypes := #[22, 22] })
    (base : Nat) (v : Value) (ys : List Nat) (hs : a.eval s = v) (hown : Own w base v ys) (ad : Addr) (c m : Nat) (hx : a.eval x = .slice (some ad) 1 c)
    (hc : w.cell? ad = some (.int .i64 (m : Int))) (hl : ys.length ≤ 1000000) (hbase : base ≤ w.heap.size)
    (hK : ∀ v' w', Own w' base v' (ys ++ [m]) → w.grownBy w' v.ownBlock → Below base w w' → wpList Tryd.prog ops Q rest (a.put o.dst v') w') : wpList Tryd.prog ops Q (o :: rest) a w := by
  obtain ⟨i0, hi, hz0, hz1, hz2⟩ := info_parts infoInt
  refine wpList_append_own w hgd s x 22 ho base 3 i0 (.int .i64 0) 1 8 Tryd.underlying22 hi hz0 hz1 hz2 rfl (by decide) v ys.length (cellsN ys) hs hown ad 1 c [.int .i64 (m : Int)] hx rfl ?_ ?_ (by unfold maxLen; omega) (by omega) hbase ?_
  · intro j u hj
    cases j with
    | zero => simp at hj; subst hj; obtain ⟨b, off, sp⟩ := ad; have : (⟨b, off, sp⟩ : Addr).add 0 = ⟨b, off, sp⟩ := by simp [Addr.add]
              rw [this]; exact hc
    | succ j => simp at hj
  · intro u hu; simp at hu; subst hu; rfl
  · intro v' w' h1 h2 _
    refine hK v' w' ?_ h2 ((Below.refl base w).grown h2 hbase hown.lt')
    unfold Own
    rw [cellsN_snoc, List.length_append]
    exact h1

theorem wpList_make_ints {w : World} {ops : Array Oper} {rest : List Oper} {o : Oper} {a : Act} {Q : Exit → Act → World → Prop} (hgd : o.guard = none) (l c : Operand)
    (ho : o.op = Op.makeSlice 22 l c) (base n : Nat) (hl : a.eval l = .int .i64 (n : Int)) (hc : a.eval c = .int .i64 (n : Int)) (hn : n ≤ 1000000) (hbase : base ≤ w.heap.size)
    (hK : ∀ w', Own w' base (.slice (some ⟨w.heap.size, 0, none⟩) n n) (List.replicate n 0) → Below w.heap.size w w' → w.heap.size < w'.heap.size → wpList Tryd.prog ops Q rest (a.put o.dst (.slice (some ⟨w.heap.size, 0, none⟩) n n)) w') : wpList Tryd.prog ops Q (o :: rest) a w := by
  obtain ⟨i0, hi, hz0, hz1, hz2⟩ := info_parts infoInt
  refine wpList_make_full w hgd l c 22 ho base 3 i0 (.int .i64 0) 1 Tryd.underlying22 hi hz0 hz1 .i64 .i64 _ _ n hl hc rfl rfl (by rw [hz2]; omega) (by unfold maxLen; omega) hbase ?_
  intro w' h1 h2
  have h3 : Own w' base (.slice (some ⟨w.heap.size, 0, none⟩) n n) (List.replicate n 0) := by
    unfold Own
    rw [cellsN_replicate, List.length_replicate]
    have e : (madeCells (Value.int .i64 0).cells (n * 1)).toList = List.replicate n (Value.int .i64 0) := by rw [Nat.mul_one]; exact toList_madeCells_one _ _
    rw [e] at h1
    exact h1
  exact hK w' h3 ((Below.refl _ w).grown h2 (Nat.le_refl _) (by intro k hk; cases hk)) (h3.lt _ rfl).2



/-- the first k places are numbered, the rest are 0 -/
def upTo (k n : Nat) : List Nat := List.range k ++ List.replicate (n - k) 0
theorem upTo_length {k n : Nat} (h : k ≤ n) : (upTo k n).length = n := by simp [upTo]; omega
theorem upTo_set {k n : Nat} (h : k < n) : (upTo k n).set k k = upTo (k + 1) n := by
  unfold upTo
  rw [List.set_append_right _ _ (by simp), List.length_range, Nat.sub_self, List.range_succ]
  obtain ⟨m, hm⟩ : ∃ m, n - k = m + 1 := ⟨n - k - 1, by omega⟩
  rw [hm, show n - (k + 1) = m by omega, List.replicate_succ, List.set_cons_zero]
  simp
theorem upTo_zero (n : Nat) : upTo 0 n = List.replicate n 0 := by simp [upTo]
theorem upTo_all (n : Nat) : upTo n n = List.range n := by simp [upTo]

theorem Own.cast {w : World} {base : Nat} {v : Value} {ys zs : List Nat} (e : ys = zs) (h : Own w base v ys) : Own w base v zs := e ▸ h


/-- an error of Join, Meet: what is returned -/
def Err2 (n : Nat) (e : Ending) : Prop := e = .returned (.tuple #[.slice none 0 0, .int .i64 n])
/-- a list, made by the call, and no error -/
def Res2 (w w' : World) (R : List Nat) (e : Ending) : Prop := ∃ v, e = .returned (.tuple #[v, .int .i64 0]) ∧ Own w' w.heap.size v R ∧ Below w.heap.size w w'

theorem Own.slice_pos {w : World} {base : Nat} {v : Value} {ys : List Nat} (h : Own w base v ys) (hp : 0 < ys.length) : ∃ g c, v = .slice (some ⟨g, 0, none⟩) ys.length c ∧ base ≤ g := by
  rcases h.2 with ⟨_, hn⟩ | ⟨g, cap, cur, hv, hb, _⟩
  · omega
  · exact ⟨g, cap, hv, hb⟩




theorem Own.mono {w : World} {base base' : Nat} {v : Value} {ys : List Nat} (h : Own w base v ys) (hb : base' ≤ base) : Own w base' v ys :=
  ⟨h.1, h.2.imp id fun ⟨g, cap, cur, hv, hg, r⟩ => ⟨g, cap, cur, hv, Nat.le_trans hb hg, r⟩⟩

theorem cell_new (w : World) (u : Value) (t : TypeId) : (w.alloc (.cells #[u] t)).cell? ⟨w.heap.size, 0, none⟩ = some u := by simp



def Err3 (n : Nat) (e : Ending) : Prop := e = .returned (.tuple #[.slice none 0 0, .int .i64 0, .int .i64 n])
def Res3 (w w' : World) (R : List Nat) (n : Nat) (e : Ending) : Prop := ∃ v, e = .returned (.tuple #[v, .int .i64 n, .int .i64 0]) ∧ Own w' w.heap.size v R ∧ Below w.heap.size w w'

theorem check_ok {us : List Nat} (h : V us) (h80 : us.length ≤ 80) : checkS (toI us) = 0 := checkS_ok (by rw [toI_length]; exact h80) (valid_toI h)

/-- the slice at A reads as these pairs, in a block below B -/
def Pairs (w : World) (B : Nat) (A : Option Addr) (ps : List (Nat × Nat)) : Prop :=
  ps = [] ∨ ∃ b off, A = some ⟨b, off, none⟩ ∧ b < B ∧ ∀ i, i < ps.length → w.cell? ⟨b, off + i * 2, none⟩ = some (.int .i64 ((ps.getD i (0, 0)).1 : Nat)) ∧ w.cell? ⟨b, off + i * 2 + 1, none⟩ = some (.int .i64 ((ps.getD i (0, 0)).2 : Nat))
theorem Pairs.at {w : World} {B : Nat} {A : Option Addr} {ps : List (Nat × Nat)} (h : Pairs w B A ps) {k : Nat} (hk : k < ps.length) :
    ∃ b off, A = some ⟨b, off, none⟩ ∧ b < B ∧ w.cell? ⟨b, off + k * 2, none⟩ = some (.int .i64 ((ps.getD k (0, 0)).1 : Nat)) ∧ w.cell? ⟨b, off + k * 2 + 1, none⟩ = some (.int .i64 ((ps.getD k (0, 0)).2 : Nat)) := by
  rcases h with h | ⟨b, off, h1, h2, h3⟩
  · subst h; simp at hk
  · exact ⟨b, off, h1, h2, (h3 k hk).1, (h3 k hk).2⟩
theorem Pairs.below {w w' : World} {B : Nat} {A : Option Addr} {ps : List (Nat × Nat)} (h : Pairs w B A ps) (hb : Below B w w') : Pairs w' B A ps := by
  rcases h with h | ⟨b, off, h1, h2, h3⟩
  · exact .inl h
  · exact .inr ⟨b, off, h1, h2, fun i hi => ⟨(hb.cell (p := ⟨b, off + i * 2, none⟩) h2).trans (h3 i hi).1, (hb.cell (p := ⟨b, off + i * 2 + 1, none⟩) h2).trans (h3 i hi).2⟩⟩
theorem Pairs.mono {w : World} {B B' : Nat} {A : Option Addr} {ps : List (Nat × Nat)} (h : Pairs w B A ps) (hb : B ≤ B') : Pairs w B' A ps := by
  rcases h with h | ⟨b, off, h1, h2, h3⟩
  · exact .inl h
  · exact .inr ⟨b, off, h1, by omega, h3⟩

theorem inR_at {n : Nat} {ps : List (Nat × Nat)} (h : inR n ps) {k : Nat} (hk : k < ps.length) : (ps.getD k (0, 0)).1 < n ∧ (ps.getD k (0, 0)).2 < n :=
  h _ (by rw [List.getD, List.getElem?_eq_getElem hk]; exact List.getElem_mem hk)
theorem gen_take (n : Nat) (ps : List (Nat × Nat)) {k : Nat} (hk : k < ps.length) : genS n (ps.take (k + 1)) = mergeS (genS n (ps.take k)) (ps.getD k (0, 0)).1 (ps.getD k (0, 0)).2 := by
  unfold genS
  rw [List.take_succ_eq_append_getElem hk, merges_append]
  have e : ps[k] = ps.getD k (0, 0) := by simp [List.getD, hk]
  rw [e]
  rfl

end Go.Proofs.YtaeelanbkdkppaaDoor.Pt

/-
  Graphs, the program: Components.
-/
namespace Go.Proofs.YtaeelanbkdkppaaDoor
open Go.RowKit
open Pt (at_)

/-! from the texts of partition, and back -/
def EPr : El (Nat × Nat) := ⟨fun x => [.int .i64 (x.1 : Int), .int .i64 (x.2 : Int)], 2, fun _ => rfl, fun x u hu => by simp at hu; rcases hu with rfl | rfl <;> rfl⟩
theorem pairs_of {w : World} {B : Nat} {A : Option Addr} {ps : List (Nat × Nat)} (h : Reads EPr w B A ps) : Pt.Pairs w B A ps := by
  rcases h with h | ⟨b, off, h1, h2, h3⟩
  · exact .inl h
  · refine .inr ⟨b, off, h1, h2, fun i hi => ?_⟩
    have hx : ps[i]? = some (ps.getD i (0, 0)) := by rw [List.getD_eq_getElem?_getD, List.getElem?_eq_getElem hi]; rfl
    exact ⟨h3 i _ hx 0 _ rfl, h3 i _ hx 1 _ rfl⟩
theorem ownI_of {w : World} {base : Nat} {v : Value} {ys : List Nat} (h : Pt.Own w base v ys) : OwnI w base v (Pt.toI ys) := by
  unfold OwnI OwnE
  rw [cellsE_int, Pt.toI_length]
  have : (Pt.toI ys).map (Value.int .i64) = Pt.cellsN ys := by simp [Pt.toI, Pt.cellsN]
  rw [this]
  exact h
theorem ints_pt {w : World} {B : Nat} {A : Option Addr} {xs : List Int} (h : Ints w B A xs) : Pt.Ints w B A xs := by
  rcases h with h | ⟨b, off, h1, h2, h3⟩
  · exact .inl h
  · refine .inr ⟨b, off, h1, h2, fun i x hx => ?_⟩
    have := h3 i x hx 0 _ rfl
    rwa [show EInt.size = 1 from rfl, Nat.mul_one, Nat.add_zero] at this

def CompC (f : FuncId) : Prop := ∀ (g : Gr) (An : Option Addr) (cn : Nat) (Ae : Option Addr) (ce : Nat) (w : World), GrAt w An cn Ae ce g →
  Calls Tryd.prog f #[gval An g.ns.length cn Ae g.es.length ce] w fun e w' => (∃ v, e = .returned (.tuple #[v, .int .i64 (validE g : Nat)]) ∧ IsP w' v (compR g)) ∧ Below w.heap.size w w'

/-- the rows of the parts after k nodes and m edges -/
def rowQ (g : Gr) (L : List Nat) (k m j : Nat) : List Int :=
  if j % 2 = 0 then coll (fun i => if at_ (Pt.quoS L) i = j / 2 then [(i : Int)] else []) k else coll (fun e => if at_ (Pt.quoS L) (frN g e) = j / 2 then [(e : Int)] else []) m
theorem rowQ_zero (g : Gr) (L : List Nat) (j : Nat) : rowQ g L 0 0 j = [] := by unfold rowQ; split <;> rfl
theorem rowQ_node (g : Gr) (L : List Nat) (k : Nat) : ∀ j, (if j = at_ (Pt.quoS L) k * 2 then rowQ g L k 0 (at_ (Pt.quoS L) k * 2) ++ [(k : Int)] else rowQ g L k 0 j) = rowQ g L (k + 1) 0 j := by
  intro j
  by_cases hj : j = at_ (Pt.quoS L) k * 2
  · subst hj
    rw [if_pos rfl]
    unfold rowQ
    rw [if_pos (by omega), if_pos (by omega)]
    simp only [coll]
    rw [if_pos (by omega)]
  · rw [if_neg hj]
    unfold rowQ
    by_cases h2 : j % 2 = 0
    · rw [if_pos h2, if_pos h2]
      simp only [coll]
      rw [if_neg (by omega), List.append_nil]
    · rw [if_neg h2, if_neg h2]
theorem rowQ_edge (g : Gr) (L : List Nat) (n m : Nat) : ∀ j, (if j = at_ (Pt.quoS L) (frN g m) * 2 + 1 then rowQ g L n m (at_ (Pt.quoS L) (frN g m) * 2 + 1) ++ [(m : Int)] else rowQ g L n m j) = rowQ g L n (m + 1) j := by
  intro j
  by_cases hj : j = at_ (Pt.quoS L) (frN g m) * 2 + 1
  · subst hj
    rw [if_pos rfl]
    unfold rowQ
    rw [if_neg (by omega), if_neg (by omega)]
    simp only [coll]
    rw [if_pos (by omega)]
  · rw [if_neg hj]
    unfold rowQ
    by_cases h2 : j % 2 = 0
    · rw [if_pos h2, if_pos h2]
    · rw [if_neg h2, if_neg h2]
      simp only [coll]
      rw [if_neg (by omega), List.append_nil]
theorem rowQ_len (g : Gr) (L : List Nat) (k m j : Nat) : (rowQ g L k m j).length ≤ k + m := by
  unfold rowQ
  split
  · have := coll_le (f := fun i => if at_ (Pt.quoS L) i = j / 2 then [(i : Int)] else []) (fun i => by split <;> simp) k
    omega
  · have := coll_le (f := fun e => if at_ (Pt.quoS L) (frN g e) = j / 2 then [(e : Int)] else []) (fun i => by split <;> simp) m
    omega
/-- at the end the rows are the components -/
theorem rowQ_end {g : Gr} (hv : validE g = 0) : ∀ i (hi : i < (compTo g (lstS g) g.ns.length).length), rowQ g (lstS g) g.ns.length g.es.length (i * 2) = (compTo g (lstS g) g.ns.length)[i].ns ∧ rowQ g (lstS g) g.ns.length g.es.length (i * 2 + 1) = (compTo g (lstS g) g.ns.length)[i].es := by
  intro i hi
  have hV := lstS_V hv
  have hlen := lstS_len g
  have hi' : i < (Pt.fixsTo (lstS g) g.ns.length).length := by rw [compTo, List.length_map] at hi; exact hi
  obtain ⟨f, hf⟩ : ∃ f, (Pt.fixsTo (lstS g) g.ns.length)[i]? = some f := ⟨_, List.getElem?_eq_getElem hi'⟩
  obtain ⟨f1, f2, f3⟩ := Pt.fixs_mem hf
  have hel : (compTo g (lstS g) g.ns.length)[i] = ⟨ndsOf (lstS g) g.ns.length f, edsOf g (lstS g) g.es.length f⟩ := by
    have : (compTo g (lstS g) g.ns.length)[i]? = some ⟨ndsOf (lstS g) g.ns.length f, edsOf g (lstS g) g.es.length f⟩ := by
      unfold compTo
      rw [List.getElem?_map, hf]; rfl
    rw [List.getElem?_eq_getElem hi] at this
    injection this
  have hq : ∀ k, k < g.ns.length → (at_ (Pt.quoS (lstS g)) k = i ↔ at_ (lstS g) k = f) := fun k hk => by
    rw [Pt.quoS_at (by rw [hlen]; exact hk)]
    have hroot : at_ (lstS g) k < g.ns.length := by have := hV.lt (i := k) (by rw [hlen]; exact hk); rwa [hlen] at this
    have hid := hV.idem (i := k) (by rw [hlen]; exact hk)
    constructor
    · intro e
      have := Pt.fixs_at hroot hid
      rw [e, hf] at this
      injection this with this
      exact this.symm
    · intro e
      rw [e, f3]
  rw [hel]
  constructor
  · unfold rowQ ndsOf
    rw [if_pos (by omega), show i * 2 / 2 = i by omega]
    exact coll_ext fun k hk => by
      by_cases h : at_ (lstS g) k = f
      · rw [if_pos h, if_pos ((hq k hk).2 h)]
      · rw [if_neg h, if_neg (fun h2 => h ((hq k hk).1 h2))]
  · unfold rowQ edsOf
    rw [if_neg (by omega), show (i * 2 + 1) / 2 = i by omega]
    exact coll_ext fun k hk => by
      have hb := (ends_lt hv hk).1
      by_cases h : at_ (lstS g) (frN g k) = f
      · rw [if_pos h, if_pos ((hq _ hb).2 h)]
      · rw [if_neg h, if_neg (fun h2 => h ((hq _ hb).1 h2))]

end Go.Proofs.YtaeelanbkdkppaaDoor

/-
  Graphs: the example; awake.
-/
namespace Go.Proofs.YtaeelanbkdkppaaDoor
open Go.RowKit

theorem gat_alloc (W : World) (o : Obj) (b : Nat) : (W.alloc o).heap[b]? = if b = W.heap.size then some o else W.heap[b]? := by
  show (W.heap.push o)[b]? = _
  rw [Array.getElem?_push]
theorem gsize_alloc (W : World) (o : Obj) : (W.alloc o).heap.size = W.heap.size + 1 := by simp
/-- a block that is known whole reads as a slice -/
theorem reads_lit {α : Type} {E : El α} {t : TypeId} {w : World} {g B : Nat} {cs : Array Value} {xs : List α} (h : w.heap[g]? = some (.cells cs t (0, 0))) (hc : cs.toList = cellsE E xs) (hB : g < B) : Reads E w B (some ⟨g, 0, none⟩) xs :=
  .inr ⟨g, 0, rfl, hB, fun i x hx j u hu => by
    have := cellsE_get E hx hu
    rw [← hc, Array.getElem?_toList] at this
    rw [Nat.zero_add, cell_of_row _ _ _ _ _ _ h]
    exact this⟩
theorem gr_lit {u : World} {a b : Nat} {ca cb : Array Value} {xs : List Int} {ys : List Ed} {n m : Nat} (hn : n = xs.length) (hm : m = ys.length) (h1 : u.heap[a]? = some (.cells ca 3 (0, 0))) (h2 : u.heap[b]? = some (.cells cb 65 (0, 0))) (e1 : ca.toList = cellsE EInt xs) (e2 : cb.toList = cellsE EEd ys) (l1 : xs.length ≤ 100) (l2 : ys.length ≤ 100) :
    GrAt u (some ⟨a, 0, none⟩) n (some ⟨b, 0, none⟩) m ⟨xs, ys⟩ :=
  ⟨reads_lit h1 e1 (heap_lt h1), reads_lit h2 e2 (heap_lt h2), ⟨by subst hn; exact Nat.le_refl _, by subst hn; unfold maxLen; omega⟩, ⟨by subst hm; exact Nat.le_refl _, by subst hm; unfold maxLen; omega⟩⟩
def exG : Gr := ⟨[3, 1, 1], [⟨0, 0, 1⟩, ⟨0, 0, 2⟩]⟩
def exR : Gr := ⟨[3, 1], [⟨0, 0, 1⟩]⟩
def exM : Mo := ⟨[0, -1, 1], [-1, 0]⟩
theorem ex_e1 : remE exG [1] [0] = 0 := by decide +kernel
theorem ex_g1 : remG exG [1] [0] = exR := by decide +kernel
theorem ex_m1 : remM exG [1] [0] = exM := by decide +kernel
theorem ex_e2 : remE exG [1] [] = 14 := by decide +kernel
theorem ex_g2 : remG exG [1] [] = noG := by decide +kernel
theorem ex_m2 : remM exG [1] [] = noM := by decide +kernel
theorem ex_v : validE exG = 0 := by decide +kernel
theorem ex_c : (compR exG).length = 1 := by decide +kernel

theorem ints_a {w : World} {x : Int} {o : Obj} : Ints ((w.alloc (.cells #[.int .i64 x] 3 (0, 0))).alloc o) ((w.alloc (.cells #[.int .i64 x] 3 (0, 0))).alloc o).heap.size (some ⟨w.heap.size, 0, none⟩) [x] := reads_lit (heap_two _ _ _) rfl (by simp; omega)
theorem ints_b {w : World} {x : Int} {o : Obj} : Ints ((w.alloc o).alloc (.cells #[.int .i64 x] 3 (0, 0))) ((w.alloc o).alloc (.cells #[.int .i64 x] 3 (0, 0))).heap.size (some ⟨w.heap.size + 1, 0, none⟩) [x] := reads_lit (heap_two' _ _ _) rfl (by simp)
theorem ints_c {w : World} {cs : Array Value} {xs : List Int} (e : cs.toList = cellsE EInt xs) : Ints (w.alloc (.cells cs 3 (0, 0))) (w.alloc (.cells cs 3 (0, 0))).heap.size (some ⟨w.heap.size, 0, none⟩) xs := reads_lit (heap_alloc_new _ _) e (by simp)
theorem below_aa (w : World) (o o2 : Obj) : Below w.heap.size w ((w.alloc o).alloc o2) := ((Below.refl _ _).alloc (Nat.le_refl _) _).alloc (by simp) _
def AwS (w : World) (h : Nat) (An Ae Bn Be : Option Addr) (cn ce dn de : Nat) (W : World) : Prop := BoxIs h (.slice An exR.ns.length cn) (.slice Ae exR.es.length ce) 25 W ∧ BoxIs (h + 1) (.slice Bn exM.ns.length dn) (.slice Be exM.es.length de) 27 W ∧ GrAt W An cn Ae ce exR ∧ MoAt W Bn dn Be de exM ∧ Below w.heap.size w W
theorem AwS.up {w W W' : World} {h : Nat} {An Ae Bn Be : Option Addr} {cn ce dn de : Nat} (k : AwS w h An Ae Bn Be cn ce dn de W) (hb : Below W.heap.size W W') : AwS w h An Ae Bn Be cn ce dn de W' :=
  ⟨k.1.up hb, k.2.1.up hb, k.2.2.1.up hb, k.2.2.2.1.up hb, k.2.2.2.2.trans (hb.mono k.2.2.2.2.size)⟩

end Go.Proofs.YtaeelanbkdkppaaDoor

/-
  The chapter's examples: awake.
-/
namespace Go.Proofs.YtaeelanbkdkppaaDoor
open Go.RowKit Go.Shelf

def exA : Gr := ⟨[0, 0], [⟨0, 0, 1⟩]⟩
def exB : Gr := ⟨[0], [⟨0, 0, 0⟩]⟩
def exM1 : Mo := ⟨[0, 0], [0]⟩
theorem ex_ab : allP exA exB = [exM1] := by decide +kernel
theorem ex_ba : allP exB exA = [] := by decide +kernel
theorem ex_aa : allP exA exA = [⟨[0, 1], [0]⟩] := by decide +kernel
theorem ex_va : validE exA = 0 := by decide +kernel
theorem ex_vb : validE exB = 0 := by decide +kernel
theorem ex_m : morE exA exB exM1 = 0 := by decide +kernel
theorem all_of {a b : Gr} {L : List Mo} (h1 : validE a = 0) (h2 : validE b = 0) (h : allP a b = L) (hl : L.length ≤ 2000) : allE a b = 0 ∧ allS a b = L := by
  have e : allR a b = L := by rw [← allP_eq h1 h2]; exact h
  have hc : chkE a b = 0 := by unfold chkE; rw [h1, h2]; rfl
  have he : allE a b = 0 := by unfold allE; rw [hc, e, if_neg (fun h => h rfl), if_neg (by omega)]
  exact ⟨he, by unfold allS; rw [he, if_pos rfl, e]⟩
theorem ex_inj : injB exA exB exM1 = false := Bool.eq_false_iff.2 fun h => by
  have := (injB_iff.1 h).2.1
  revert this
  decide
theorem ex_sur : surB exA exB exM1 = true := surB_iff.2 ⟨ex_m, fun k hk => by
  have e : exB.ns.length = 1 := rfl
  have : k = 0 := by omega
  subst this
  decide, fun k hk => by
  have e : exB.es.length = 1 := rfl
  have : k = 0 := by omega
  subst this
  decide⟩

/-- the two graphs, in memory -/
def AK (B : Nat) (w u : World) : Prop := u.heap[B + 1 + 1]? = some (.cells #[.slice (some ⟨B, 0, none⟩) 2 2, .slice (some ⟨B + 1, 0, none⟩) 1 1] 25 (0, 0)) ∧
  u.heap[B + 1 + 1 + 1 + 1 + 1]? = some (.cells #[.slice (some ⟨B + 1 + 1 + 1, 0, none⟩) 1 1, .slice (some ⟨B + 1 + 1 + 1 + 1, 0, none⟩) 1 1] 25 (0, 0)) ∧
  GrAt u (some ⟨B, 0, none⟩) 2 (some ⟨B + 1, 0, none⟩) 1 exA ∧ GrAt u (some ⟨B + 1 + 1 + 1, 0, none⟩) 1 (some ⟨B + 1 + 1 + 1 + 1, 0, none⟩) 1 exB ∧ Below w.heap.size w u ∧ B = w.heap.size
theorem AK.up {B : Nat} {w u u' : World} (h : AK B w u) (hb : Below u.heap.size u u') : AK B w u' :=
  ⟨heap_up hb h.1, heap_up hb h.2.1, h.2.2.1.up hb, h.2.2.2.1.up hb, h.2.2.2.2.1.trans (hb.mono h.2.2.2.2.1.size), h.2.2.2.2.2⟩

set_option maxRecDepth 100000 in
set_option maxHeartbeats 4000000 in
theorem awake_any (w : World) (h00 : 0 < w.heap.size) (hT : TabW w) : Calls Tryd.prog 10 #[] w fun e w' => e = .returned (.bool true) ∧ Below w.heap.size w w' := by
  have HT := Lib.hid (fun u (hb : Below w.heap.size w u) => hT.up (hb.block 0 h00))
  obtain ⟨eab, lab⟩ := all_of ex_va ex_vb ex_ab (by decide)
  obtain ⟨eba, lba⟩ := all_of ex_vb ex_va ex_ba (by decide)
  obtain ⟨eaa, laa⟩ := all_of ex_va ex_va ex_aa (by decide)
  have hp : ∀ u, Below w.heap.size w u → 0 < u.heap.size := fun u hb => Nat.lt_of_lt_of_le h00 hb.size
  have hab := fun (u : World) (hb : Below w.heap.size w u) An cn Ae ce Bn dn Be de h1 h2 => all_any exA exB An cn Ae ce Bn dn Be de u (hp u hb) (HT.out u hb) h1 h2
  have hba := fun (u : World) (hb : Below w.heap.size w u) An cn Ae ce Bn dn Be de h1 h2 => all_any exB exA An cn Ae ce Bn dn Be de u (hp u hb) (HT.out u hb) h1 h2
  have haa := fun (u : World) (hb : Below w.heap.size w u) An cn Ae ce Bn dn Be de h1 h2 => all_any exA exA An cn Ae ce Bn dn Be de u (hp u hb) (HT.out u hb) h1 h2
  rw [eab, lab] at hab
  rw [eba, lba] at hba
  rw [eaa, laa] at haa
  have HAB := Lib.hid hab
  have HBA := Lib.hid hba
  have HAA := Lib.hid haa
  clear hT hab hba haa hp eab lab eba lba eaa laa
  go_enter Tryd.func10, Tryd.ntmps10
  go_upto_region 3 with fail
  generalize hW : (((((w.alloc _).alloc _).alloc _).alloc _).alloc _).alloc _ = W0
  have hK : AK w.heap.size w W0 := by
    have h0 : W0.heap[w.heap.size]? = some (.cells #[.int .i64 0, .int .i64 0] 3 (0, 0)) := by rw [← hW]; simp only [at_alloc, size_alloc]; repeat (first | rfl | (split; · (first | rfl | omega)))
    have h1 : W0.heap[w.heap.size + 1]? = some (.cells #[.int .i64 0, .int .i64 0, .int .i64 1] 65 (0, 0)) := by rw [← hW]; simp only [at_alloc, size_alloc]; repeat (first | rfl | (split; · (first | rfl | omega)))
    have h2 : W0.heap[w.heap.size + 1 + 1 + 1]? = some (.cells #[.int .i64 0] 3 (0, 0)) := by rw [← hW]; simp only [at_alloc, size_alloc]; repeat (first | rfl | (split; · (first | rfl | omega)))
    have h3 : W0.heap[w.heap.size + 1 + 1 + 1 + 1]? = some (.cells #[.int .i64 0, .int .i64 0, .int .i64 0] 65 (0, 0)) := by rw [← hW]; simp only [at_alloc, size_alloc]; repeat (first | rfl | (split; · (first | rfl | omega)))
    refine ⟨?_, ?_, gr_lit rfl rfl h0 h1 rfl rfl (by decide) (by decide), gr_lit rfl rfl h2 h3 rfl rfl (by decide) (by decide), ?_, rfl⟩
    · rw [← hW]; simp only [at_alloc, size_alloc]; repeat (first | rfl | (split; · (first | rfl | omega)))
    · rw [← hW]; simp only [at_alloc, size_alloc]; repeat (first | rfl | (split; · (first | rfl | omega)))
    · rw [← hW]
      refine Below.alloc (Below.alloc (Below.alloc (Below.alloc (Below.alloc (Below.alloc (Below.refl _ _) ?_ _) ?_ _) ?_ _) ?_ _) ?_ _) ?_ _ <;> simp <;> omega
  clear hW
  have HK0 := Lib.hid hK
  obtain ⟨c0, c1⟩ := cell2 hK.1
  obtain ⟨c2, c3⟩ := cell2 hK.2.1
  clear hK
  go_upto_region 4 with (go_at_call 31; refine (HAB.out _ HK0.out.2.2.2.2.1 _ _ _ _ _ _ _ _ HK0.out.2.2.1 HK0.out.2.2.2.1).mono ?_; rintro e w1 ⟨⟨v1, rfl, hp1⟩, hb1⟩; have HP1 := Lib.hid hp1; obtain ⟨P1, d1, rfl, _⟩ := hp1)
  have HK1 := Lib.hid (HK0.out.up hb1)
  clear hb1 c0 c1 c2 c3 HK0 HAB
  obtain ⟨c0, c1⟩ := cell2 HK1.out.1
  obtain ⟨c2, c3⟩ := cell2 HK1.out.2.1
  go_upto_region 5 with (go_at_call 31; refine (HBA.out _ HK1.out.2.2.2.2.1 _ _ _ _ _ _ _ _ HK1.out.2.2.2.1 HK1.out.2.2.1).mono ?_; rintro e w2 ⟨⟨v2, rfl, hp2⟩, hb2⟩; have HP2 := Lib.hid (HP1.out.up hb2); obtain ⟨P2, d2, rfl, _⟩ := hp2)
  have HK2 := Lib.hid (HK1.out.up hb2)
  clear hb2 c0 c1 c2 c3 HK1 HBA HP1
  obtain ⟨c0, c1⟩ := cell2 HK2.out.1
  obtain ⟨c2, c3⟩ := cell2 HK2.out.2.1
  go_upto_region 6 with (go_at_call 31; refine (HAA.out _ HK2.out.2.2.2.2.1 _ _ _ _ _ _ _ _ HK2.out.2.2.1 HK2.out.2.2.1).mono ?_; rintro e w3 ⟨⟨v3, rfl, hp3⟩, hb3⟩; have HP3 := Lib.hid (HP2.out.up hb3); obtain ⟨P3, d3, rfl, _⟩ := hp3)
  have HK3 := Lib.hid (HK2.out.up hb3)
  clear hb3 c0 c1 c2 c3 HK2 HAA HP2
  obtain ⟨A9, d9, e9, hP⟩ := HP3.out
  injection e9 with e9 _ _
  subst e9
  obtain ⟨b, off, cs, rfl, hb, hr, hc⟩ := DReads.at hP (k := 0) (by decide)
  obtain ⟨M1, k1, M2, k2, rfl, r1, r2⟩ := hr
  have y0 := hc 0 _ rfl
  have y1 := hc 1 _ rfl
  simp only [show DPart.size = 2 from rfl, Nat.zero_mul, Nat.add_zero] at y0 y1
  change Ints w3 w3.heap.size M1 [0, 0] at r1
  change Ints w3 w3.heap.size M2 [0] at r2
  have HR1 := Lib.hid r1
  have HR2 := Lib.hid r2
  have HY0 := Lib.hid y0
  have HY1 := Lib.hid y1
  clear hc r1 r2 hP hb HP3
  go_upto_region 8 with fail
  clear y0 y1
  have hK := HK3.out
  obtain ⟨c0, c1⟩ := cell2 hK.1
  obtain ⟨c2, c3⟩ := cell2 hK.2.1
  have hM : ∀ W, Below w3.heap.size w3 W → (fun u : World => u.cell? ⟨b, off, none⟩ = some (.slice M1 2 k1) ∧ u.cell? ⟨b, off + 1, none⟩ = some (.slice M2 1 k2) ∧ u.cell? ⟨w.heap.size + 1 + 1, 0, none⟩ = some (.slice (some ⟨w.heap.size, 0, none⟩) 2 2) ∧ u.cell? ⟨w.heap.size + 1 + 1, 1, none⟩ = some (.slice (some ⟨w.heap.size + 1, 0, none⟩) 1 1) ∧ u.cell? ⟨w.heap.size + 1 + 1 + 1 + 1 + 1, 0, none⟩ = some (.slice (some ⟨w.heap.size + 1 + 1 + 1, 0, none⟩) 1 1) ∧ u.cell? ⟨w.heap.size + 1 + 1 + 1 + 1 + 1, 1, none⟩ = some (.slice (some ⟨w.heap.size + 1 + 1 + 1 + 1, 0, none⟩) 1 1)) W := fun W h => ⟨cell_up h HY0.out, cell_up h HY1.out, cell_up h c0, cell_up h c1, cell_up h c2, cell_up h c3⟩
  have HM := Lib.hid hM
  have HS1 := Lib.hid (hM _ (below_d w3))
  have Bwd := below_d w3
  clear c0 c1 c2 c3 hM hK
  go_wp2_with fail
  refine wp_region_noPanic ?_
  refine wp_region_held_drew (S := (fun u : World => u.cell? ⟨b, off, none⟩ = some (.slice M1 2 k1) ∧ u.cell? ⟨b, off + 1, none⟩ = some (.slice M2 1 k2) ∧ u.cell? ⟨w.heap.size + 1 + 1, 0, none⟩ = some (.slice (some ⟨w.heap.size, 0, none⟩) 2 2) ∧ u.cell? ⟨w.heap.size + 1 + 1, 1, none⟩ = some (.slice (some ⟨w.heap.size + 1, 0, none⟩) 1 1) ∧ u.cell? ⟨w.heap.size + 1 + 1 + 1 + 1 + 1, 0, none⟩ = some (.slice (some ⟨w.heap.size + 1 + 1 + 1, 0, none⟩) 1 1) ∧ u.cell? ⟨w.heap.size + 1 + 1 + 1 + 1 + 1, 1, none⟩ = some (.slice (some ⟨w.heap.size + 1 + 1 + 1 + 1, 0, none⟩) 1 1))) (by kernel_rfl) (HS1.out) (fun hHeld => ?_)
  generalize w3.drew = wd at *
  refine wpAnyH_take (i := 0) (v := ?_) (oper_at (r := _) rfl) (by kernel_rfl) (by kernel_rfl) (by kernel_rfl) (fun _ _ _ h => h) (Or.inl ⟨by rfl, ?_⟩) (by assumption) ?_
  rotate_left
  · intro w hSw; try dsimp only at hSw
    go_simp
    try with_reducible rfl
  try simp only [Act.put, List.setIfInBounds_toArray, List.set_cons_zero, List.set_cons_succ]
  refine wpAnyH_take (i := 1) (v := ?_) (oper_at (r := _) rfl) (by kernel_rfl) (by kernel_rfl) (by kernel_rfl) (fun _ _ _ h => h) (Or.inl ⟨by rfl, ?_⟩) (by assumption) ?_
  rotate_left
  · intro w hSw; try dsimp only at hSw
    go_simp
    try with_reducible rfl
  try simp only [Act.put, List.setIfInBounds_toArray, List.set_cons_zero, List.set_cons_succ]
  refine wpAnyH_take (i := 2) (v := ?_) (oper_at (r := _) rfl) (by kernel_rfl) (by kernel_rfl) (by kernel_rfl) (fun _ _ _ h => h) (Or.inl ⟨by rfl, ?_⟩) (by assumption) ?_
  rotate_left
  · intro w hSw; try dsimp only at hSw
    go_simp
    try with_reducible rfl
  try simp only [Act.put, List.setIfInBounds_toArray, List.set_cons_zero, List.set_cons_succ]
  refine wpAnyH_ready (rs := [3, 4]) (by kernel_rfl) (by simp) ?_
  refine (AllReadyH.cons (oper_at (r := _) rfl) (fun K hK => ?_) (AllReadyH.cons (oper_at (r := _) rfl) (fun K hK => ?_) AllReadyH.nil))
  · skip
    have Ba := Bwd.alloc Bwd.size (.cells #[.int .i64 0, .int .i64 0] 3)
    have Xa := heap_alloc_new wd (.cells #[.int .i64 0, .int .i64 0] 3)
    obtain ⟨ga, hga⟩ : ∃ g, g = wd.heap.size := ⟨_, rfl⟩
    rw [← hga] at Xa
    go_simp
    refine hK.out _ _ (HM.out _ Ba) (fun _ => ?_)
    clear hK K
    try simp only [Act.put, List.setIfInBounds_toArray, List.set_cons_zero, List.set_cons_succ]
    generalize wd.alloc (.cells #[.int .i64 0, .int .i64 0] 3) = Wa at *
    try rw [← hga]
    clear hga
    refine wpAnyH_ready (rs := [4]) (by kernel_rfl) (by simp) ?_
    refine AllReadyH.cons (oper_at (r := _) rfl) (fun K hK => ?_) AllReadyH.nil
    have Bb := Ba.alloc Ba.size (.cells #[.int .i64 0] 3)
    have Xb := heap_alloc_new Wa (.cells #[.int .i64 0] 3)
    have Xa2 := (Below.heap_alloc Wa (.cells #[.int .i64 0] 3) _ (heap_lt Xa)).trans Xa
    obtain ⟨gb, hgb⟩ : ∃ g, g = Wa.heap.size := ⟨_, rfl⟩
    rw [← hgb] at Xb
    go_simp
    refine hK.out _ _ (HM.out _ Bb) (fun _ => ?_)
    clear hK K
    try simp only [Act.put, List.setIfInBounds_toArray, List.set_cons_zero, List.set_cons_succ]
    generalize Wa.alloc (.cells #[.int .i64 0] 3) = Wb at *
    try rw [← hgb]
    clear hgb Xa Ba
    refine wpAnyH_take (i := 5) (v := ?_) (oper_at (r := _) rfl) (by kernel_rfl) (by kernel_rfl) (by kernel_rfl) (fun _ _ _ h => h) (Or.inl ⟨by rfl, ?_⟩) (by assumption) ?_
    rotate_left
    · intro w hSw; try dsimp only at hSw
      go_simp
      try with_reducible rfl
    try simp only [Act.put, List.setIfInBounds_toArray, List.set_cons_zero, List.set_cons_succ]
    have q1 : Ints Wb Wb.heap.size (some ⟨ga, 0, none⟩) [0, 0] := reads_lit Xa2 rfl (heap_lt Xa2)
    have q2 : Ints Wb Wb.heap.size (some ⟨gb, 0, none⟩) [0] := reads_lit Xb rfl (heap_lt Xb)
    have hSM := sameMo_any exM1 exM1 M1 k1 M2 k2 (some ⟨ga, 0, none⟩) 2 (some ⟨gb, 0, none⟩) 1 Wb (by decide) (by decide) (Reads.up HR1.out Bb) (Reads.up HR2.out Bb) q1 q2
    rw [decide_eq_true (p := exM1 = exM1) rfl] at hSM
    have HSM := Lib.hid hSM
    have HBB := Lib.hid Bb
    clear q1 q2 hSM Xa2 Xb Bb
    refine wpAnyH_ready (rs := [6]) (by kernel_rfl) (by simp) ?_
    refine AllReadyH.cons (oper_at (r := _) rfl) (fun K hK => ?_) AllReadyH.nil
    go_simp
    refine HSM.out.mono ?_
    rintro e w4 ⟨rfl, hb4⟩
    have HB4 := Lib.hid (HBB.out.trans (hb4.mono HBB.out.size))
    clear hb4
    go_wp2_with fail
    refine hK.out _ _ (HM.out _ HB4.out) (fun _ => ?_)
    clear hK K
    try simp only [Act.put, List.setIfInBounds_toArray, List.set_cons_zero, List.set_cons_succ]
    have hsu := surM_any exA exB exM1 _ _ _ _ _ _ _ _ M1 k1 M2 k2 w4 ((HK3.out.2.2.1).up HB4.out) ((HK3.out.2.2.2.1).up HB4.out) (Reads.up HR1.out HB4.out) (Reads.up HR2.out HB4.out) (by decide) (by decide)
    rw [ex_sur] at hsu
    have HSU := Lib.hid hsu
    clear hsu
    refine wpAnyH_take (i := 7) (v := ?_) (oper_at (r := _) rfl) (by kernel_rfl) (by kernel_rfl) (by kernel_rfl) (fun _ _ _ h => h) (Or.inl ⟨by rfl, ?_⟩) (by assumption) ?_
    rotate_left
    · intro w hSw; try dsimp only at hSw
      go_simp
      try with_reducible rfl
    try simp only [Act.put, List.setIfInBounds_toArray, List.set_cons_zero, List.set_cons_succ]
    refine wpAnyH_take (i := 8) (v := ?_) (oper_at (r := _) rfl) (by kernel_rfl) (by kernel_rfl) (by kernel_rfl) (fun _ _ _ h => h) (Or.inl ⟨by rfl, ?_⟩) (by assumption) ?_
    rotate_left
    · intro w hSw; try dsimp only at hSw
      go_simp
      try with_reducible rfl
    try simp only [Act.put, List.setIfInBounds_toArray, List.set_cons_zero, List.set_cons_succ]
    refine wpAnyH_take (i := 9) (v := ?_) (oper_at (r := _) rfl) (by kernel_rfl) (by kernel_rfl) (by kernel_rfl) (fun _ _ _ h => h) (Or.inl ⟨by rfl, ?_⟩) (by assumption) ?_
    rotate_left
    · intro w hSw; try dsimp only at hSw
      go_simp
      try with_reducible rfl
    try simp only [Act.put, List.setIfInBounds_toArray, List.set_cons_zero, List.set_cons_succ]
    refine wpAnyH_take (i := 10) (v := ?_) (oper_at (r := _) rfl) (by kernel_rfl) (by kernel_rfl) (by kernel_rfl) (fun _ _ _ h => h) (Or.inl ⟨by rfl, ?_⟩) (by assumption) ?_
    rotate_left
    · intro w hSw; try dsimp only at hSw
      go_simp
      try with_reducible rfl
    try simp only [Act.put, List.setIfInBounds_toArray, List.set_cons_zero, List.set_cons_succ]
    refine wpAnyH_take (i := 11) (v := ?_) (oper_at (r := _) rfl) (by kernel_rfl) (by kernel_rfl) (by kernel_rfl) (fun _ _ _ h => h) (Or.inl ⟨by rfl, ?_⟩) (by assumption) ?_
    rotate_left
    · intro w hSw; try dsimp only at hSw
      go_simp
      try with_reducible rfl
    try simp only [Act.put, List.setIfInBounds_toArray, List.set_cons_zero, List.set_cons_succ]
    refine wpAnyH_take (i := 12) (v := ?_) (oper_at (r := _) rfl) (by kernel_rfl) (by kernel_rfl) (by kernel_rfl) (fun _ _ _ h => h) (Or.inl ⟨by rfl, ?_⟩) (by assumption) ?_
    rotate_left
    · intro w hSw; try dsimp only at hSw
      go_simp
      try with_reducible rfl
    try simp only [Act.put, List.setIfInBounds_toArray, List.set_cons_zero, List.set_cons_succ]
    refine wpAnyH_ready (rs := [13]) (by kernel_rfl) (by simp) ?_
    refine AllReadyH.cons (oper_at (r := _) rfl) (fun K hK => ?_) AllReadyH.nil
    go_simp
    refine HSU.out.mono ?_
    rintro e w5 ⟨rfl, hb5⟩
    have HB5 := Lib.hid (HB4.out.trans (hb5.mono HB4.out.size))
    clear hb5
    go_wp2_with fail
    refine hK.out _ _ (HM.out _ HB5.out) (fun _ => ?_)
    clear hK K
    try simp only [Act.put, List.setIfInBounds_toArray, List.set_cons_zero, List.set_cons_succ]
    have hin := injM_any exA exB exM1 _ _ _ _ _ _ _ _ M1 k1 M2 k2 w5 ((HK3.out.2.2.1).up HB5.out) ((HK3.out.2.2.2.1).up HB5.out) (Reads.up HR1.out HB5.out) (Reads.up HR2.out HB5.out) (by decide) (by decide)
    rw [ex_inj] at hin
    have HIN := Lib.hid hin
    clear hin
    refine wpAnyH_take (i := 14) (v := ?_) (oper_at (r := _) rfl) (by kernel_rfl) (by kernel_rfl) (by kernel_rfl) (fun _ _ _ h => h) (Or.inl ⟨by rfl, ?_⟩) (by assumption) ?_
    rotate_left
    · intro w hSw; try dsimp only at hSw
      go_simp
      try with_reducible rfl
    try simp only [Act.put, List.setIfInBounds_toArray, List.set_cons_zero, List.set_cons_succ]
    refine wpAnyH_take (i := 15) (v := ?_) (oper_at (r := _) rfl) (by kernel_rfl) (by kernel_rfl) (by kernel_rfl) (fun _ _ _ h => h) (Or.inl ⟨by rfl, ?_⟩) (by assumption) ?_
    rotate_left
    · intro w hSw; try dsimp only at hSw
      go_simp
      try with_reducible rfl
    try simp only [Act.put, List.setIfInBounds_toArray, List.set_cons_zero, List.set_cons_succ]
    refine wpAnyH_take (i := 16) (v := ?_) (oper_at (r := _) rfl) (by kernel_rfl) (by kernel_rfl) (by kernel_rfl) (fun _ _ _ h => h) (Or.inl ⟨by rfl, ?_⟩) (by assumption) ?_
    rotate_left
    · intro w hSw; try dsimp only at hSw
      go_simp
      try with_reducible rfl
    try simp only [Act.put, List.setIfInBounds_toArray, List.set_cons_zero, List.set_cons_succ]
    refine wpAnyH_take (i := 17) (v := ?_) (oper_at (r := _) rfl) (by kernel_rfl) (by kernel_rfl) (by kernel_rfl) (fun _ _ _ h => h) (Or.inl ⟨by rfl, ?_⟩) (by assumption) ?_
    rotate_left
    · intro w hSw; try dsimp only at hSw
      go_simp
      try with_reducible rfl
    try simp only [Act.put, List.setIfInBounds_toArray, List.set_cons_zero, List.set_cons_succ]
    refine wpAnyH_take (i := 18) (v := ?_) (oper_at (r := _) rfl) (by kernel_rfl) (by kernel_rfl) (by kernel_rfl) (fun _ _ _ h => h) (Or.inl ⟨by rfl, ?_⟩) (by assumption) ?_
    rotate_left
    · intro w hSw; try dsimp only at hSw
      go_simp
      try with_reducible rfl
    try simp only [Act.put, List.setIfInBounds_toArray, List.set_cons_zero, List.set_cons_succ]
    refine wpAnyH_take (i := 19) (v := ?_) (oper_at (r := _) rfl) (by kernel_rfl) (by kernel_rfl) (by kernel_rfl) (fun _ _ _ h => h) (Or.inl ⟨by rfl, ?_⟩) (by assumption) ?_
    rotate_left
    · intro w hSw; try dsimp only at hSw
      go_simp
      try with_reducible rfl
    try simp only [Act.put, List.setIfInBounds_toArray, List.set_cons_zero, List.set_cons_succ]
    refine wpAnyH_take (i := 20) (v := ?_) (oper_at (r := _) rfl) (by kernel_rfl) (by kernel_rfl) (by kernel_rfl) (fun _ _ _ h => h) (Or.inl ⟨by rfl, ?_⟩) (by assumption) ?_
    rotate_left
    · intro w hSw; try dsimp only at hSw
      go_simp
      try with_reducible rfl
    try simp only [Act.put, List.setIfInBounds_toArray, List.set_cons_zero, List.set_cons_succ]
    refine wpAnyH_ready (rs := [21]) (by kernel_rfl) (by simp) ?_
    refine AllReadyH.cons (oper_at (r := _) rfl) (fun K hK => ?_) AllReadyH.nil
    go_simp
    refine HIN.out.mono ?_
    rintro e w6 ⟨rfl, hb6⟩
    have HB6 := Lib.hid (HB5.out.trans (hb6.mono HB5.out.size))
    clear hb6
    go_wp2_with fail
    refine hK.out _ _ (HM.out _ HB6.out) (fun _ => ?_)
    clear hK K
    try simp only [Act.put, List.setIfInBounds_toArray, List.set_cons_zero, List.set_cons_succ]
    refine wpAnyH_take (i := 22) (v := ?_) (oper_at (r := _) rfl) (by kernel_rfl) (by kernel_rfl) (by kernel_rfl) (fun _ _ _ h => h) (Or.inl ⟨by rfl, ?_⟩) (by assumption) ?_
    rotate_left
    · intro w hSw; try dsimp only at hSw
      go_simp
      try with_reducible rfl
    try simp only [Act.put, List.setIfInBounds_toArray, List.set_cons_zero, List.set_cons_succ]
    refine wpAnyH_take (i := 23) (v := ?_) (oper_at (r := _) rfl) (by kernel_rfl) (by kernel_rfl) (by kernel_rfl) (fun _ _ _ h => h) (Or.inl ⟨by rfl, ?_⟩) (by assumption) ?_
    rotate_left
    · intro w hSw; try dsimp only at hSw
      go_simp
      try with_reducible rfl
    try simp only [Act.put, List.setIfInBounds_toArray, List.set_cons_zero, List.set_cons_succ]
    refine wpAnyH_take (i := 24) (v := ?_) (oper_at (r := _) rfl) (by kernel_rfl) (by kernel_rfl) (by kernel_rfl) (fun _ _ _ h => h) (Or.inl ⟨by rfl, ?_⟩) (by assumption) ?_
    rotate_left
    · intro w hSw; try dsimp only at hSw
      go_simp
      try with_reducible rfl
    try simp only [Act.put, List.setIfInBounds_toArray, List.set_cons_zero]
    refine wpAnyH_done (by kernel_rfl) ?_ _
    refine NoPanic.normal ?_
    go_wp2_with fail
    go_ret
    exact ⟨rfl, HK3.out.2.2.2.2.1.trans (HB6.out.mono HK3.out.2.2.2.2.1.size)⟩
  · skip
    have Ba := Bwd.alloc Bwd.size (.cells #[.int .i64 0] 3)
    have Xa := heap_alloc_new wd (.cells #[.int .i64 0] 3)
    obtain ⟨ga, hga⟩ : ∃ g, g = wd.heap.size := ⟨_, rfl⟩
    rw [← hga] at Xa
    go_simp
    refine hK.out _ _ (HM.out _ Ba) (fun _ => ?_)
    clear hK K
    try simp only [Act.put, List.setIfInBounds_toArray, List.set_cons_zero, List.set_cons_succ]
    generalize wd.alloc (.cells #[.int .i64 0] 3) = Wa at *
    try rw [← hga]
    clear hga
    refine wpAnyH_ready (rs := [3]) (by kernel_rfl) (by simp) ?_
    refine AllReadyH.cons (oper_at (r := _) rfl) (fun K hK => ?_) AllReadyH.nil
    have Bb := Ba.alloc Ba.size (.cells #[.int .i64 0, .int .i64 0] 3)
    have Xb := heap_alloc_new Wa (.cells #[.int .i64 0, .int .i64 0] 3)
    have Xa2 := (Below.heap_alloc Wa (.cells #[.int .i64 0, .int .i64 0] 3) _ (heap_lt Xa)).trans Xa
    obtain ⟨gb, hgb⟩ : ∃ g, g = Wa.heap.size := ⟨_, rfl⟩
    rw [← hgb] at Xb
    go_simp
    refine hK.out _ _ (HM.out _ Bb) (fun _ => ?_)
    clear hK K
    try simp only [Act.put, List.setIfInBounds_toArray, List.set_cons_zero, List.set_cons_succ]
    generalize Wa.alloc (.cells #[.int .i64 0, .int .i64 0] 3) = Wb at *
    try rw [← hgb]
    clear hgb Xa Ba
    refine wpAnyH_take (i := 5) (v := ?_) (oper_at (r := _) rfl) (by kernel_rfl) (by kernel_rfl) (by kernel_rfl) (fun _ _ _ h => h) (Or.inl ⟨by rfl, ?_⟩) (by assumption) ?_
    rotate_left
    · intro w hSw; try dsimp only at hSw
      go_simp
      try with_reducible rfl
    try simp only [Act.put, List.setIfInBounds_toArray, List.set_cons_zero, List.set_cons_succ]
    have q1 : Ints Wb Wb.heap.size (some ⟨gb, 0, none⟩) [0, 0] := reads_lit Xb rfl (heap_lt Xb)
    have q2 : Ints Wb Wb.heap.size (some ⟨ga, 0, none⟩) [0] := reads_lit Xa2 rfl (heap_lt Xa2)
    have hSM := sameMo_any exM1 exM1 M1 k1 M2 k2 (some ⟨gb, 0, none⟩) 2 (some ⟨ga, 0, none⟩) 1 Wb (by decide) (by decide) (Reads.up HR1.out Bb) (Reads.up HR2.out Bb) q1 q2
    rw [decide_eq_true (p := exM1 = exM1) rfl] at hSM
    have HSM := Lib.hid hSM
    have HBB := Lib.hid Bb
    clear q1 q2 hSM Xa2 Xb Bb
    refine wpAnyH_ready (rs := [6]) (by kernel_rfl) (by simp) ?_
    refine AllReadyH.cons (oper_at (r := _) rfl) (fun K hK => ?_) AllReadyH.nil
    go_simp
    refine HSM.out.mono ?_
    rintro e w4 ⟨rfl, hb4⟩
    have HB4 := Lib.hid (HBB.out.trans (hb4.mono HBB.out.size))
    clear hb4
    go_wp2_with fail
    refine hK.out _ _ (HM.out _ HB4.out) (fun _ => ?_)
    clear hK K
    try simp only [Act.put, List.setIfInBounds_toArray, List.set_cons_zero, List.set_cons_succ]
    have hsu := surM_any exA exB exM1 _ _ _ _ _ _ _ _ M1 k1 M2 k2 w4 ((HK3.out.2.2.1).up HB4.out) ((HK3.out.2.2.2.1).up HB4.out) (Reads.up HR1.out HB4.out) (Reads.up HR2.out HB4.out) (by decide) (by decide)
    rw [ex_sur] at hsu
    have HSU := Lib.hid hsu
    clear hsu
    refine wpAnyH_take (i := 7) (v := ?_) (oper_at (r := _) rfl) (by kernel_rfl) (by kernel_rfl) (by kernel_rfl) (fun _ _ _ h => h) (Or.inl ⟨by rfl, ?_⟩) (by assumption) ?_
    rotate_left
    · intro w hSw; try dsimp only at hSw
      go_simp
      try with_reducible rfl
    try simp only [Act.put, List.setIfInBounds_toArray, List.set_cons_zero, List.set_cons_succ]
    refine wpAnyH_take (i := 8) (v := ?_) (oper_at (r := _) rfl) (by kernel_rfl) (by kernel_rfl) (by kernel_rfl) (fun _ _ _ h => h) (Or.inl ⟨by rfl, ?_⟩) (by assumption) ?_
    rotate_left
    · intro w hSw; try dsimp only at hSw
      go_simp
      try with_reducible rfl
    try simp only [Act.put, List.setIfInBounds_toArray, List.set_cons_zero, List.set_cons_succ]
    refine wpAnyH_take (i := 9) (v := ?_) (oper_at (r := _) rfl) (by kernel_rfl) (by kernel_rfl) (by kernel_rfl) (fun _ _ _ h => h) (Or.inl ⟨by rfl, ?_⟩) (by assumption) ?_
    rotate_left
    · intro w hSw; try dsimp only at hSw
      go_simp
      try with_reducible rfl
    try simp only [Act.put, List.setIfInBounds_toArray, List.set_cons_zero, List.set_cons_succ]
    refine wpAnyH_take (i := 10) (v := ?_) (oper_at (r := _) rfl) (by kernel_rfl) (by kernel_rfl) (by kernel_rfl) (fun _ _ _ h => h) (Or.inl ⟨by rfl, ?_⟩) (by assumption) ?_
    rotate_left
    · intro w hSw; try dsimp only at hSw
      go_simp
      try with_reducible rfl
    try simp only [Act.put, List.setIfInBounds_toArray, List.set_cons_zero, List.set_cons_succ]
    refine wpAnyH_take (i := 11) (v := ?_) (oper_at (r := _) rfl) (by kernel_rfl) (by kernel_rfl) (by kernel_rfl) (fun _ _ _ h => h) (Or.inl ⟨by rfl, ?_⟩) (by assumption) ?_
    rotate_left
    · intro w hSw; try dsimp only at hSw
      go_simp
      try with_reducible rfl
    try simp only [Act.put, List.setIfInBounds_toArray, List.set_cons_zero, List.set_cons_succ]
    refine wpAnyH_take (i := 12) (v := ?_) (oper_at (r := _) rfl) (by kernel_rfl) (by kernel_rfl) (by kernel_rfl) (fun _ _ _ h => h) (Or.inl ⟨by rfl, ?_⟩) (by assumption) ?_
    rotate_left
    · intro w hSw; try dsimp only at hSw
      go_simp
      try with_reducible rfl
    try simp only [Act.put, List.setIfInBounds_toArray, List.set_cons_zero, List.set_cons_succ]
    refine wpAnyH_ready (rs := [13]) (by kernel_rfl) (by simp) ?_
    refine AllReadyH.cons (oper_at (r := _) rfl) (fun K hK => ?_) AllReadyH.nil
    go_simp
    refine HSU.out.mono ?_
    rintro e w5 ⟨rfl, hb5⟩
    have HB5 := Lib.hid (HB4.out.trans (hb5.mono HB4.out.size))
    clear hb5
    go_wp2_with fail
    refine hK.out _ _ (HM.out _ HB5.out) (fun _ => ?_)
    clear hK K
    try simp only [Act.put, List.setIfInBounds_toArray, List.set_cons_zero, List.set_cons_succ]
    have hin := injM_any exA exB exM1 _ _ _ _ _ _ _ _ M1 k1 M2 k2 w5 ((HK3.out.2.2.1).up HB5.out) ((HK3.out.2.2.2.1).up HB5.out) (Reads.up HR1.out HB5.out) (Reads.up HR2.out HB5.out) (by decide) (by decide)
    rw [ex_inj] at hin
    have HIN := Lib.hid hin
    clear hin
    refine wpAnyH_take (i := 14) (v := ?_) (oper_at (r := _) rfl) (by kernel_rfl) (by kernel_rfl) (by kernel_rfl) (fun _ _ _ h => h) (Or.inl ⟨by rfl, ?_⟩) (by assumption) ?_
    rotate_left
    · intro w hSw; try dsimp only at hSw
      go_simp
      try with_reducible rfl
    try simp only [Act.put, List.setIfInBounds_toArray, List.set_cons_zero, List.set_cons_succ]
    refine wpAnyH_take (i := 15) (v := ?_) (oper_at (r := _) rfl) (by kernel_rfl) (by kernel_rfl) (by kernel_rfl) (fun _ _ _ h => h) (Or.inl ⟨by rfl, ?_⟩) (by assumption) ?_
    rotate_left
    · intro w hSw; try dsimp only at hSw
      go_simp
      try with_reducible rfl
    try simp only [Act.put, List.setIfInBounds_toArray, List.set_cons_zero, List.set_cons_succ]
    refine wpAnyH_take (i := 16) (v := ?_) (oper_at (r := _) rfl) (by kernel_rfl) (by kernel_rfl) (by kernel_rfl) (fun _ _ _ h => h) (Or.inl ⟨by rfl, ?_⟩) (by assumption) ?_
    rotate_left
    · intro w hSw; try dsimp only at hSw
      go_simp
      try with_reducible rfl
    try simp only [Act.put, List.setIfInBounds_toArray, List.set_cons_zero, List.set_cons_succ]
    refine wpAnyH_take (i := 17) (v := ?_) (oper_at (r := _) rfl) (by kernel_rfl) (by kernel_rfl) (by kernel_rfl) (fun _ _ _ h => h) (Or.inl ⟨by rfl, ?_⟩) (by assumption) ?_
    rotate_left
    · intro w hSw; try dsimp only at hSw
      go_simp
      try with_reducible rfl
    try simp only [Act.put, List.setIfInBounds_toArray, List.set_cons_zero, List.set_cons_succ]
    refine wpAnyH_take (i := 18) (v := ?_) (oper_at (r := _) rfl) (by kernel_rfl) (by kernel_rfl) (by kernel_rfl) (fun _ _ _ h => h) (Or.inl ⟨by rfl, ?_⟩) (by assumption) ?_
    rotate_left
    · intro w hSw; try dsimp only at hSw
      go_simp
      try with_reducible rfl
    try simp only [Act.put, List.setIfInBounds_toArray, List.set_cons_zero, List.set_cons_succ]
    refine wpAnyH_take (i := 19) (v := ?_) (oper_at (r := _) rfl) (by kernel_rfl) (by kernel_rfl) (by kernel_rfl) (fun _ _ _ h => h) (Or.inl ⟨by rfl, ?_⟩) (by assumption) ?_
    rotate_left
    · intro w hSw; try dsimp only at hSw
      go_simp
      try with_reducible rfl
    try simp only [Act.put, List.setIfInBounds_toArray, List.set_cons_zero, List.set_cons_succ]
    refine wpAnyH_take (i := 20) (v := ?_) (oper_at (r := _) rfl) (by kernel_rfl) (by kernel_rfl) (by kernel_rfl) (fun _ _ _ h => h) (Or.inl ⟨by rfl, ?_⟩) (by assumption) ?_
    rotate_left
    · intro w hSw; try dsimp only at hSw
      go_simp
      try with_reducible rfl
    try simp only [Act.put, List.setIfInBounds_toArray, List.set_cons_zero, List.set_cons_succ]
    refine wpAnyH_ready (rs := [21]) (by kernel_rfl) (by simp) ?_
    refine AllReadyH.cons (oper_at (r := _) rfl) (fun K hK => ?_) AllReadyH.nil
    go_simp
    refine HIN.out.mono ?_
    rintro e w6 ⟨rfl, hb6⟩
    have HB6 := Lib.hid (HB5.out.trans (hb6.mono HB5.out.size))
    clear hb6
    go_wp2_with fail
    refine hK.out _ _ (HM.out _ HB6.out) (fun _ => ?_)
    clear hK K
    try simp only [Act.put, List.setIfInBounds_toArray, List.set_cons_zero, List.set_cons_succ]
    refine wpAnyH_take (i := 22) (v := ?_) (oper_at (r := _) rfl) (by kernel_rfl) (by kernel_rfl) (by kernel_rfl) (fun _ _ _ h => h) (Or.inl ⟨by rfl, ?_⟩) (by assumption) ?_
    rotate_left
    · intro w hSw; try dsimp only at hSw
      go_simp
      try with_reducible rfl
    try simp only [Act.put, List.setIfInBounds_toArray, List.set_cons_zero, List.set_cons_succ]
    refine wpAnyH_take (i := 23) (v := ?_) (oper_at (r := _) rfl) (by kernel_rfl) (by kernel_rfl) (by kernel_rfl) (fun _ _ _ h => h) (Or.inl ⟨by rfl, ?_⟩) (by assumption) ?_
    rotate_left
    · intro w hSw; try dsimp only at hSw
      go_simp
      try with_reducible rfl
    try simp only [Act.put, List.setIfInBounds_toArray, List.set_cons_zero, List.set_cons_succ]
    refine wpAnyH_take (i := 24) (v := ?_) (oper_at (r := _) rfl) (by kernel_rfl) (by kernel_rfl) (by kernel_rfl) (fun _ _ _ h => h) (Or.inl ⟨by rfl, ?_⟩) (by assumption) ?_
    rotate_left
    · intro w hSw; try dsimp only at hSw
      go_simp
      try with_reducible rfl
    try simp only [Act.put, List.setIfInBounds_toArray, List.set_cons_zero]
    refine wpAnyH_done (by kernel_rfl) ?_ _
    refine NoPanic.normal ?_
    go_wp2_with fail
    go_ret
    exact ⟨rfl, HK3.out.2.2.2.2.1.trans (HB6.out.mono HK3.out.2.2.2.2.1.size)⟩

end Go.Proofs.YtaeelanbkdkppaaDoor

/-
  The reference's small functions: SameInts, Finest, Through, Distinct, Covers, Back.
-/
namespace Go.Proofs.YtaeelanbkdkppaaDoor
open Go.RowKit

set_option maxHeartbeats 1000000 in
theorem sameInts2_any (xs ys : List Int) (A A' : Option Addr) (B B' c c' : Nat) (w : World) (hx : xs.length ≤ maxLen) (hA : Ints w B A xs) (hB : Ints w B' A' ys) :
    Calls Tryd.prog 47 #[.slice A xs.length c, .slice A' ys.length c'] w fun e w' => e = .returned (.bool (decide (xs = ys))) ∧ Below w.heap.size w w' := by
  unfold maxLen at hx
  by_cases hl : xs.length = ys.length
  · have t : ((xs.length : Int) != (ys.length : Int)) = false := by simp; omega
    have HA := Lib.hid hA
    have HB := Lib.hid hB
    have HLN := Lib.hid hl
    have hyl : ys.length ≤ xs.length := by omega
    have hxl : xs.length ≤ ys.length := by omega
    clear hA hB hl
    go_enter Tryd.func47, Tryd.ntmps47
    go_wp2
    go_loopw [5] (fun i wr => ∃ k q : Nat, k ≤ xs.length ∧ i = .int .i64 k ∧ wr = w.drewN q ∧ ∀ j, j < k → xs.getD j 0 = ys.getD j 0) (fun i _ => xs.length - (intOf i).toNat)
    case atStart => exact ⟨0, 0, Nat.zero_le _, rfl, rfl, fun j hj => by omega⟩
    case round =>
      obtain ⟨k, q, hk, rfl, rfl, hs⟩ := hrel
      have HS := Lib.hid hs
      clear hs
      by_cases hlt : k < xs.length
      · have hlt' : k < ys.length := by omega
        obtain ⟨b, off, rfl, hb, hc⟩ := Ints.cells HA.out hlt
        obtain ⟨b', off', rfl, hb', hd⟩ := Ints.cells HB.out hlt'
        have ck := hc k hlt
        have dk := hd k hlt'
        clear hc hd
        have hk0 : (0 : Int) ≤ (k : Int) := by omega
        have hk1 : (k : Int) < (xs.length : Int) := by omega
        have hk1' : (k : Int) < (ys.length : Int) := by omega
        have hk2 : ((k : Int)).toNat = k := by omega
        by_cases he : xs.getD k 0 = ys.getD k 0
        · have HE := Lib.hid he
          rw [he] at ck
          generalize ys.getD k 0 = y at ck dk
          clear he
          have t2 : (y != y) = false := by simp
          go_wp2_with fail
          go_quiet (fail)
          go_wp2_with fail
          go_roundw
          case rel => exact ⟨k + 1, _, by omega, by go_num, rfl, fun j hj => by
            by_cases e : j = k
            · subst e; exact HE.out
            · exact HS.out j (by omega)⟩
          case measure => simp [intOf]; omega
        · have H := Lib.hid (show decide (xs = ys) = false from decide_eq_false (fun h => he (by rw [h])))
          generalize xs.getD k 0 = x at ck he
          generalize ys.getD k 0 = y at dk he
          have t2 : (x != y) = true := by simp [bne, he]
          clear he
          go_wp2_with fail
          go_quiet (fail)
          go_wp2_with fail
          go_ret
          exact ⟨ret_bool (by rw [H.out]), below_draws (below_draws (Below.refl _ _) q) _⟩
      · have H := Lib.hid (show decide (xs = ys) = true from decide_eq_true (by
          apply List.ext_getElem HLN.out
          intro j h1 h2
          have := HS.out j (by omega)
          simpa [List.getD, h1, h2] using this))
        go_wp2
        go_ret
        exact ⟨ret_bool (by rw [H.out]), below_draws (Below.refl _ _) q⟩
  · have t : ((xs.length : Int) != (ys.length : Int)) = true := by simp; omega
    have H := Lib.hid (show decide (xs = ys) = false from decide_eq_false (fun h => hl (by rw [h])))
    clear hl hA hB
    go_enter Tryd.func47, Tryd.ntmps47
    go_wp2
    go_ret
    exact ⟨ret_bool (by rw [H.out]), Below.refl _ _⟩

theorem num0_succ (k : Nat) : numS (0 : Nat) (k + 1) = numS (0 : Nat) k ++ [(k : Int)] := by
  show coll _ k ++ [((0 : Nat) : Int) + (k : Int)] = _
  rw [show ((0 : Nat) : Int) + (k : Int) = (k : Int) by omega]; rfl

set_option maxHeartbeats 1000000 in
theorem finest2_any (n : Nat) (w : World) (hn : n ≤ 1000) :
    Calls Tryd.prog 53 #[.int .i64 (n : Int)] w fun e w' => ∃ v, e = .returned v ∧ OwnI w' w.heap.size v (numS (0 : Nat) n) ∧ Below w.heap.size w w' := by
  have HN := Lib.hid num0_succ
  have HNL := Lib.hid (fun k => num_length (0 : Nat) k)
  have H0 : Hid (numS (0 : Nat) 0 = []) := Lib.hid rfl
  generalize numS (0 : Nat) = P at *
  go_enter Tryd.func53, Tryd.ntmps53
  go_wp2_with fail
  go_loopw [3, 4] (fun v x wr => ∃ k : Nat, k ≤ n ∧ x = .int .i64 k ∧ OwnI wr w.heap.size v (P k) ∧ Below w.heap.size w wr) (fun _ x _ => n - (intOf x).toNat)
  case atStart => exact ⟨0, Nat.zero_le _, rfl, by rw [H0.out]; exact OwnE.nil _ _ _, Below.refl _ _⟩
  case round =>
    obtain ⟨k, hk, rfl, hown, hbel⟩ := hrel
    have HG := Lib.hid hbel
    have hsz := hbel.size
    have HLN := Lib.hid (HNL.out k)
    obtain ⟨ao, cap, rfl⟩ := OwnE.slice hown
    have HW := Lib.hid hown
    clear hown hbel
    by_cases hlt : k < n
    · have e9 : (P k).length ≤ 1000 := by rw [HLN.out]; omega
      go_wp2_with (at_builtin; refine wpList_append_int (w := wr.alloc _) rfl _ _ rfl w.heap.size _ (P k) rfl ?y1 wr.heap.size 1 (k : Int) rfl ?y2 ?y3 ?y4 ?_)
      case y1 => exact HW.out.alloc _
      case y2 => exact cell_new _ _ _
      case y3 => omega
      case y4 => simp; omega
      intro v2 w2 hown2 _ hb2
      have HW2 := Lib.hid (OwnE.cast (HN.out k).symm hown2)
      have HB2 := Lib.hid ((HG.out.alloc hsz _).trans hb2)
      clear hown2 hb2
      go_wp2_with fail
      go_roundw
      case rel => exact ⟨k + 1, by omega, by go_num, HW2.out, HB2.out⟩
      case measure => simp [intOf]; omega
    · have e : k = n := by omega
      subst e
      go_wp2_with fail
      go_ret
      exact ⟨_, rfl, HW.out, HG.out⟩

theorem thr_take (l k : List Int) {j : Nat} (h : j < l.length) : thr (l.take (j + 1)) k = thr (l.take j) k ++ [k.getD (l.getD j 0).toNat 0] := by
  unfold thr
  rw [← take_next h, List.map_append]; rfl

set_option maxHeartbeats 1000000 in
theorem through_any (l k : List Int) (A B : Option Addr) (c d : Nat) (w : World) (hl : l.length ≤ 1000) (hr : ∀ x ∈ l, 0 ≤ x ∧ x < k.length) (hA : Ints w w.heap.size A l) (hB : Ints w w.heap.size B k) :
    Calls Tryd.prog 67 #[.slice A l.length c, .slice B k.length d] w fun e w' => ∃ v, e = .returned v ∧ OwnI w' w.heap.size v (thr l k) ∧ Below w.heap.size w w' := by
  have HN := Lib.hid (fun j (h : j < l.length) => thr_take l k h)
  have HNL : Hid (∀ j, j ≤ l.length → (thr (l.take j) k).length = j) := Lib.hid fun j h => by rw [thr_len, List.length_take]; omega
  have H0 : Hid (thr (l.take 0) k = []) := Lib.hid rfl
  have HE : Hid (thr (l.take l.length) k = thr l k) := Lib.hid (by rw [List.take_length])
  have HA := Lib.hid hA
  have HK := Lib.hid hB
  have HR := Lib.hid hr
  clear hA hB hr
  generalize thr l k = R at HE ⊢
  generalize hP : (fun j => thr (l.take j) k) = P
  have eP : ∀ j, thr (l.take j) k = P j := fun j => by rw [← hP]
  simp only [eP] at HN HNL H0 HE
  clear hP eP
  go_enter Tryd.func67, Tryd.ntmps67
  go_wp2_with fail
  go_loopw [5, 6] (fun v x wr => ∃ j : Nat, j ≤ l.length ∧ x = .int .i64 j ∧ OwnI wr w.heap.size v (P j) ∧ Below w.heap.size w wr) (fun _ x _ => l.length - (intOf x).toNat)
  case atStart => exact ⟨0, Nat.zero_le _, rfl, by rw [H0.out]; exact OwnE.nil _ _ _, Below.refl _ _⟩
  case round =>
    obtain ⟨j, hj, rfl, hown, hbel⟩ := hrel
    have HG := Lib.hid hbel
    have hsz := hbel.size
    have HLN := Lib.hid (HNL.out j hj)
    obtain ⟨ao, cap, rfl⟩ := OwnE.slice hown
    have HW := Lib.hid hown
    by_cases hlt : j < l.length
    · obtain ⟨b, off, rfl, hb, hc⟩ := Ints.cells (HA.out.below hbel) hlt
      have cj := hc j hlt
      have hx := HR.out _ (getD_mem (d := (0 : Int)) hlt)
      obtain ⟨q, hq⟩ : ∃ q : Nat, l.getD j 0 = (q : Int) := ⟨(l.getD j 0).toNat, by omega⟩
      have HNJ := Lib.hid (HN.out j hlt)
      rw [hq] at cj hx HNJ
      rw [Int.toNat_natCast] at HNJ
      have hqk : q < k.length := by omega
      obtain ⟨b2, off2, rfl, hb2, hd⟩ := Ints.cells (HK.out.below hbel) hqk
      have dq := hd q hqk
      have e9 : (P j).length ≤ 1000 := by rw [HLN.out]; omega
      generalize k.getD q 0 = y at dq HNJ
      have q0 : (0 : Int) ≤ (q : Int) := by omega
      have q1 : (q : Int) < (k.length : Int) := by omega
      have q2 : ((q : Int)).toNat = q := by omega
      clear hown hbel hc hd hx hq
      go_wp2_with (at_builtin; refine wpList_append_int (w := wr.alloc _) rfl _ _ rfl w.heap.size _ (P j) rfl ?y1 wr.heap.size 1 y rfl ?y2 ?y3 ?y4 ?_)
      case y1 => exact HW.out.alloc _
      case y2 => exact cell_new _ _ _
      case y3 => omega
      case y4 => simp; omega
      intro v2 w2 hown2 _ hb2
      have HW2 := Lib.hid (OwnE.cast HNJ.out.symm hown2)
      have HB2 := Lib.hid ((HG.out.alloc hsz _).trans hb2)
      clear hown2 hb2
      go_wp2_with fail
      go_roundw
      case rel => exact ⟨j + 1, by omega, by go_num, HW2.out, HB2.out⟩
      case measure => simp [intOf]; omega
    · have e : j = l.length := by omega
      subst e
      have HW2 := Lib.hid (OwnE.cast HE.out HW.out)
      clear hown hbel
      go_wp2_with fail
      go_ret
      exact ⟨_, rfl, HW2.out, HG.out⟩

noncomputable def nodB (l : List Int) : Bool := @decide l.Nodup (Classical.propDecidable _)
noncomputable def covB (l : List Int) (n : Nat) : Bool := @decide (Cov l n) (Classical.propDecidable _)
theorem nodB_true {l : List Int} (h : l.Nodup) : nodB l = true := @decide_eq_true _ (Classical.propDecidable _) h
theorem nodB_false {l : List Int} (h : ¬ l.Nodup) : nodB l = false := @decide_eq_false _ (Classical.propDecidable _) h
theorem covB_true {l : List Int} {n : Nat} (h : Cov l n) : covB l n = true := @decide_eq_true _ (Classical.propDecidable _) h
theorem covB_false {l : List Int} {n : Nat} (h : ¬ Cov l n) : covB l n = false := @decide_eq_false _ (Classical.propDecidable _) h

set_option maxHeartbeats 1000000 in
theorem distinct_any (l : List Int) (A : Option Addr) (c : Nat) (w : World) (hl : l.length ≤ 1000) (hA : Ints w w.heap.size A l) :
    Calls Tryd.prog 43 #[.slice A l.length c] w fun e w' => e = .returned (.bool (nodB l)) ∧ Below w.heap.size w w' := by
  have HA := Lib.hid hA
  have HT : Hid ((∀ i k, i < l.length → k < i → l.getD i 0 ≠ l.getD k 0) → nodB l = true) := Lib.hid fun h => nodB_true (nodup_iff.2 h)
  have HF : Hid (∀ i k, i < l.length → k < i → l.getD i 0 = l.getD k 0 → nodB l = false) := Lib.hid fun i k hi hk e => nodB_false fun h => nodup_iff.1 h i k hi hk e
  clear hA
  generalize nodB l = R at *
  go_enter Tryd.func43, Tryd.ntmps43
  go_wp2_with fail
  go_loopw [3] (fun v wr => ∃ i q : Nat, i ≤ l.length ∧ v = .int .i64 (i : Int) ∧ wr = w.drewN q ∧ ∀ i' k, i' < i → k < i' → l.getD i' 0 ≠ l.getD k 0) (fun v _ => l.length - (intOf v).toNat)
  case atStart => exact ⟨0, 0, Nat.zero_le _, rfl, rfl, fun i k h => by omega⟩
  case round =>
    obtain ⟨i, q, hi, rfl, rfl, hs⟩ := hrel
    have HS := Lib.hid hs
    clear hs
    by_cases hlt : i < l.length
    · obtain ⟨b, off, rfl, hb, hc⟩ := Ints.cells HA.out hlt
      have HC := Lib.hid hc
      have HLT := Lib.hid hlt
      have hi0 : (0 : Int) ≤ (i : Int) := by omega
      have hi1 : (i : Int) < (l.length : Int) := by omega
      have hi2 : ((i : Int)).toNat = i := by omega
      have HM : Hid (l.length - ((i : Int) + 1).toNat < l.length - ((i : Int)).toNat) := Lib.hid (by omega)
      clear hc
      go_wp2_with fail
      go_loopw [4] (fun v wr => ∃ k q : Nat, k ≤ i ∧ v = .int .i64 (k : Int) ∧ wr = w.drewN q ∧ ∀ k', k' < k → l.getD i 0 ≠ l.getD k' 0) (fun v _ => i - (intOf v).toNat)
      case atStart => exact ⟨0, q, Nat.zero_le _, rfl, rfl, fun k h => by omega⟩
      case round =>
        obtain ⟨k, q2, hk, rfl, rfl, hs⟩ := hrel
        have HS2 := Lib.hid hs
        clear hs
        by_cases hlt2 : k < i
        · have ci := HC.out i HLT.out
          have ck := HC.out k (by have := HLT.out; omega)
          have HFI := Lib.hid (HF.out i k HLT.out hlt2)
          have hk0 : (0 : Int) ≤ (k : Int) := by omega
          have hk1 : (k : Int) < (l.length : Int) := by omega
          have hk2 : ((k : Int)).toNat = k := by omega
          by_cases he : l.getD i 0 = l.getD k 0
          · have HR := Lib.hid (HFI.out he)
            rw [he] at ci
            clear he
            generalize l.getD k 0 = y at ci ck
            have t2 : (y == y) = true := by simp
            go_wp2_with fail
            go_quiet (fail)
            go_wp2_with fail
            go_ret
            exact ⟨ret_bool (by rw [HR.out]), below_draws (below_draws (Below.refl _ _) q2) _⟩
          · have HS3 : Hid (∀ k', k' < k + 1 → l.getD i 0 ≠ l.getD k' 0) := Lib.hid fun k' hk' => by
              by_cases e : k' = k
              · subst e; exact he
              · exact HS2.out k' (by omega)
            generalize l.getD i 0 = x at *
            generalize l.getD k 0 = y at *
            have t2 : (x == y) = false := ne_beq he
            clear he
            go_wp2_with fail
            go_quiet (fail)
            go_wp2_with fail
            go_roundw
            case rel => exact ⟨k + 1, _, by omega, by go_num, rfl, HS3.out⟩
            case measure => simp [intOf]; omega
        · obtain rfl : k = i := by omega
          go_wp2_with fail
          go_roundw
          case rel => exact ⟨k + 1, q2, HLT.out, by go_num, rfl, fun i' k' h1 h2 => by
            by_cases e : i' = k
            · subst e; exact HS2.out k' h2
            · exact HS.out i' k' (by omega) h2⟩
          case measure => exact HM.out
    · have HR := Lib.hid (HT.out fun i' k h1 h2 => HS.out i' k (by omega) h2)
      go_wp2_with fail
      go_ret
      exact ⟨ret_bool (by rw [HR.out]), below_draws (Below.refl _ _) q⟩

def fndB (l : List Int) (k : Int) (i : Nat) : Bool := (l.take i).any fun x => x == k
theorem fndB_succ (l : List Int) (k : Int) {i : Nat} (h : i < l.length) : fndB l k (i + 1) = (fndB l k i || (l.getD i 0 == k)) := by
  unfold fndB
  rw [← take_next h, List.any_append]; simp
theorem fndB_all (l : List Int) (k : Int) : fndB l k l.length = true ↔ k ∈ l := by
  unfold fndB
  rw [List.take_length, List.any_eq_true]
  constructor
  · rintro ⟨x, hx, e⟩
    rw [← beq_iff_eq.1 e]; exact hx
  · exact fun h => ⟨k, h, by simp⟩

set_option maxHeartbeats 1000000 in
theorem covers_any (l : List Int) (n : Nat) (A : Option Addr) (c : Nat) (w : World) (hl : l.length ≤ 1000) (hn : n ≤ 1000) (hA : Ints w w.heap.size A l) :
    Calls Tryd.prog 44 #[.slice A l.length c, .int .i64 (n : Int)] w fun e w' => e = .returned (.bool (covB l n)) ∧ w' = w := by
  have HA := Lib.hid hA
  have HT : Hid ((∀ k : Nat, k < n → fndB l k l.length = true) → covB l n = true) := Lib.hid fun h => covB_true fun k hk => (fndB_all l k).1 (h k hk)
  have HF : Hid (∀ k : Nat, k < n → fndB l k l.length = false → covB l n = false) := Lib.hid fun k hk e => covB_false fun h => by rw [(fndB_all l k).2 (h k hk)] at e; cases e
  have HU := Lib.hid (fun (k : Int) i (h : i < l.length) => fndB_succ l k h)
  have H0 : Hid (∀ k, fndB l k 0 = false) := Lib.hid fun k => rfl
  clear hA
  generalize covB l n = R at *
  generalize fndB l = F at *
  go_enter Tryd.func44, Tryd.ntmps44
  go_wp2_with fail
  go_loop [5] (fun v => ∃ k : Nat, k ≤ n ∧ v = .int .i64 (k : Int) ∧ ∀ k' : Nat, k' < k → F k' l.length = true) (fun v => n - (intOf v).toNat)
  case atStart => exact ⟨0, Nat.zero_le _, rfl, fun k h => by omega⟩
  case round =>
    obtain ⟨k, hk, rfl, hs⟩ := hrel
    have HS := Lib.hid hs
    clear hs
    by_cases hlt : k < n
    · have HLT := Lib.hid hlt
      have HM : Hid (n - ((k : Int) + 1).toNat < n - ((k : Int)).toNat) := Lib.hid (by omega)
      have hk1 : (k : Int) < (n : Int) := by omega
      go_wp2_with fail
      go_loop [6, 7] (fun f v => ∃ i : Nat, i ≤ l.length ∧ v = .int .i64 (i : Int) ∧ f = .bool (F k i)) (fun _ v => l.length - (intOf v).toNat)
      case atStart => exact ⟨0, Nat.zero_le _, rfl, by rw [H0.out]⟩
      case round =>
        obtain ⟨i, hi, rfl, rfl⟩ := hrel
        by_cases hlt2 : i < l.length
        · obtain ⟨b, off, rfl, hb, hc⟩ := Ints.cells HA.out hlt2
          have ci := hc i hlt2
          have HUI := Lib.hid (HU.out (k : Int) i hlt2)
          have hi0 : (0 : Int) ≤ (i : Int) := by omega
          have hi1 : (i : Int) < (l.length : Int) := by omega
          have hi2 : ((i : Int)).toNat = i := by omega
          clear hc
          generalize l.getD i 0 = x at *
          cases hf : F k i
          · have HFF := Lib.hid hf
            clear hf
            go_wp2_with fail
            go_round
            case rel => exact ⟨i + 1, by omega, by go_num, by rw [HUI.out, HFF.out]; rfl⟩
            case measure => simp [intOf]; omega
          · have HFF := Lib.hid hf
            clear hf
            go_wp2_with fail
            go_round
            case rel => exact ⟨i + 1, by omega, by go_num, by rw [HUI.out, HFF.out]; rfl⟩
            case measure => simp [intOf]; omega
        · obtain rfl : i = l.length := by omega
          cases hf : F k l.length
          · have HR := Lib.hid (HF.out k HLT.out hf)
            clear hf
            go_wp2_with fail
            go_ret
            exact ⟨ret_bool (by rw [HR.out]), rfl⟩
          · have HFF := Lib.hid hf
            clear hf
            go_wp2_with fail
            go_round
            case rel => exact ⟨k + 1, HLT.out, by go_num, fun k' h => by
              by_cases e : k' = k
              · subst e; exact HFF.out
              · exact HS.out k' (by omega)⟩
            case measure => exact HM.out
    · have HR := Lib.hid (HT.out fun k' h => HS.out k' (by omega))
      go_wp2_with fail
      go_ret
      exact ⟨ret_bool (by rw [HR.out]), rfl⟩

theorem set_last (l : List Int) (a b : Int) (k : Nat) (h : l.length = k) : (l ++ [a]).set k b = l ++ [b] := by subst h; simp

set_option maxHeartbeats 1000000 in
theorem back_any (l : List Int) (n : Nat) (A : Option Addr) (c : Nat) (w : World) (hl : l.length ≤ 1000) (hn : n ≤ 1000) (hA : Ints w w.heap.size A l) :
    Calls Tryd.prog 52 #[.slice A l.length c, .int .i64 (n : Int)] w fun e w' => ∃ v, e = .returned v ∧ OwnI w' w.heap.size v (backL l n) ∧ Below w.heap.size w w' := by
  have HA := Lib.hid hA
  have HN : Hid (∀ k, backL l (k + 1) = backL l k ++ [lastAt l (k : Int) l.length]) := Lib.hid fun k => rfl
  have HNL := Lib.hid (fun k => backL_len l k)
  have H0 : Hid (backL l 0 = []) := Lib.hid rfl
  have HU : Hid (∀ (k : Int) j, lastAt l k (j + 1) = if l.getD j 0 = k then (j : Int) else lastAt l k j) := Lib.hid fun k j => rfl
  have HU0 : Hid (∀ (k : Int), lastAt l k 0 = -1) := Lib.hid fun k => rfl
  clear hA
  generalize backL l = P at *
  generalize lastAt l = F at *
  go_enter Tryd.func52, Tryd.ntmps52
  go_wp2_with fail
  go_loopw [5, 6] (fun v x wr => ∃ k : Nat, k ≤ n ∧ x = .int .i64 (k : Int) ∧ OwnI wr w.heap.size v (P k) ∧ Below w.heap.size w wr) (fun _ x _ => n - (intOf x).toNat)
  case atStart => exact ⟨0, Nat.zero_le _, rfl, by rw [H0.out]; exact OwnE.nil _ _ _, Below.refl _ _⟩
  case round =>
    obtain ⟨k, hk, rfl, hown, hbel⟩ := hrel
    have HG := Lib.hid hbel
    have hsz := hbel.size
    have hln := HNL.out k
    have HLN := Lib.hid hln
    obtain ⟨ao, cap, rfl⟩ := OwnE.slice hown
    have HW := Lib.hid hown
    clear hown hbel hln
    by_cases hlt : k < n
    · have e9 : (P k).length ≤ 1000 := by rw [HLN.out]; omega
      have HLT := Lib.hid hlt
      have HM : Hid (n - ((k : Int) + 1).toNat < n - ((k : Int)).toNat) := Lib.hid (by omega)
      go_wp2_with (at_builtin; refine wpList_append_int (w := wr.alloc _) rfl _ _ rfl w.heap.size _ (P k) rfl ?y1 wr.heap.size 1 (-1) rfl ?y2 ?y3 ?y4 ?_)
      case y1 => exact HW.out.alloc _
      case y2 => exact cell_new _ _ _
      case y3 => omega
      case y4 => simp; omega
      intro v2 w2 hown2 _ hb2
      obtain ⟨g2, cp2, hv2, hg2, _⟩ := OwnE.pos hown2 (by simp)
      subst hv2
      have HB2 := Lib.hid ((HG.out.alloc hsz _).trans hb2)
      have HL2 : Hid ((P k ++ [(-1 : Int)]).length = k + 1) := Lib.hid (by simp [HLN.out])
      rw [HL2.out]
      rw [HL2.out] at hown2
      have HW2 := Lib.hid hown2
      clear hown2 hb2 e9
      go_wp2_with fail
      go_loopw [7] (fun x wr => ∃ i : Nat, i ≤ l.length ∧ x = .int .i64 (i : Int) ∧ OwnI wr w.heap.size (.slice (some ⟨g2, 0, none⟩) (k + 1) cp2) (P k ++ [F k i]) ∧ Below w.heap.size w wr) (fun x _ => l.length - (intOf x).toNat)
      case atStart => exact ⟨0, Nat.zero_le _, rfl, by rw [HU0.out]; exact HW2.out, HB2.out⟩
      case round =>
        obtain ⟨i, hi, rfl, hown, hbel⟩ := hrel
        have HO := Lib.hid hown
        have HG3 := Lib.hid hbel
        by_cases hlt2 : i < l.length
        · obtain ⟨b, off, rfl, hb, hc⟩ := Ints.cells (HA.out.below hbel) hlt2
          have ci := hc i hlt2
          have HUI := Lib.hid (HU.out (k : Int) i)
          have hi0 : (0 : Int) ≤ (i : Int) := by omega
          have hi1 : (i : Int) < (l.length : Int) := by omega
          have hi2 : ((i : Int)).toNat = i := by omega
          have HM2 : Hid (l.length - ((i : Int) + 1).toNat < l.length - ((i : Int)).toNat) := Lib.hid (by omega)
          have hl3 : k + 1 = (P k ++ [F k i]).length := by simp [HLN.out]
          have oj := OwnI.cell hl3 hown (j := k) (by omega)
          have fj := OwnI.free hl3 hown k
          have hset := OwnI.set hl3 hown k (i : Int)
          have hs2 : (P k ++ [F k i]).set k (i : Int) = P k ++ [(i : Int)] := set_last _ _ _ _ HLN.out
          rw [hs2] at hset
          have HSET := Lib.hid hset
          have hk0 : (0 : Int) ≤ (k : Int) := by omega
          have hk1 : (k : Int) < (k : Int) + 1 := by omega
          have hk2 : ((k : Int)).toNat = k := by omega
          have HLT2 := Lib.hid hlt2
          clear hc hset hs2 hl3 hown hbel
          generalize (P k ++ [F k i]).getD k 0 = y0 at oj
          by_cases he : l.getD i 0 = (k : Int)
          · rw [if_pos he] at HUI
            rw [he] at ci
            clear he
            have t2 : ((k : Int) == (k : Int)) = true := by simp
            go_wp2_with fail
            go_roundw
            case rel => exact ⟨i + 1, HLT2.out, by go_num, by rw [HUI.out]; exact HSET.out.1, HG3.out.setCell (p := ⟨g2, k, none⟩) hg2 _⟩
            case measure => exact HM2.out
          · rw [if_neg he] at HUI
            generalize l.getD i 0 = x at *
            have t2 : (x == (k : Int)) = false := ne_beq he
            clear he
            go_wp2_with fail
            go_roundw
            case rel => exact ⟨i + 1, HLT2.out, by go_num, by rw [HUI.out]; exact HO.out, HG3.out⟩
            case measure => exact HM2.out
        · obtain rfl : i = l.length := by omega
          have HO2 := Lib.hid (OwnE.cast (HN.out k).symm HO.out)
          have hl4 : (P (k + 1)).length = k + 1 := HNL.out (k + 1)
          have HL4 := Lib.hid hl4
          clear hown hbel hl4
          go_wp2_with fail
          go_roundw
          case rel => exact ⟨k + 1, HLT.out, by go_num, HO2.out, HG3.out⟩
          case measure => exact HM.out
    · have e : k = n := by omega
      subst e
      go_wp2_with fail
      go_ret
      exact ⟨_, rfl, HW.out, HG.out⟩

end Go.Proofs.YtaeelanbkdkppaaDoor
