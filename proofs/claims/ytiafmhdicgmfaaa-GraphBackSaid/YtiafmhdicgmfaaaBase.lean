/-
  Slices of any kind of plain element in memory: reading one, owning one, append, make. Over a seat's own program.
-/
import Derived.Test.YtiafmhdicgmfaaaProg
import Derived.WalkKit
import Derived.WalkSpells
import Derived.WalkLawsBesides
import Derived.Lib.Hide
import Derived.BigQuiet
import Derived.Deep.QuietTactic
import Derived.StillTailTactics
import Derived.IntWalk
import Derived.ArgAppend
namespace Go.Proofs.Ytiafmhdicgmfaaa
open Go.RowKit

theorem ret_bool {a b : Bool} (h : a = b) : Ending.returned (.bool a) = .returned (.bool b) := by rw [h]
theorem ret_int {k : IntKind} {a b : Int} (h : a = b) : Ending.returned (.int k a) = .returned (.int k b) := by rw [h]
theorem below_draws {B : Nat} {a w : World} (h : Below B a w) (n : Nat) : Below B a (w.drewN n) := ⟨h.os, h.tape, h.output, h.size, h.block⟩
theorem addr_plain (b off j : Nat) : (⟨b, off, none⟩ : Addr).add j = ⟨b, off + j, none⟩ := Addr.add_lit _ _ _
theorem cell_new (w : World) (u : Value) (t : TypeId) : (w.alloc (.cells #[u] t)).cell? ⟨w.heap.size, 0, none⟩ = some u := by simp
theorem slice_of {w : World} {base : Nat} {e : TypeId} {size : Nat} {v : Value} {n : Nat} {xs : List Value} (h : w.ownsRow base e size v n xs) : ∃ ao cap, v = .slice ao n cap := by
  rcases h.2 with ⟨hv, h0⟩ | ⟨g, cap, cur, hv, _⟩
  · exact ⟨none, 0, by rw [hv, h0]⟩
  · exact ⟨_, _, hv⟩
theorem grown_trans {a b c : World} {r : Option Nat} (h : a.grownBy b r) (k : b.grownBy c r) : a.grownBy c r :=
  ⟨k.os.trans h.os, k.tape.trans h.tape, k.output.trans h.output, Nat.le_trans h.size k.size, fun i hi hr => (k.block i (Nat.lt_of_lt_of_le hi h.size) hr).trans (h.block i hi hr)⟩
theorem grown_refl (a : World) (r : Option Nat) : a.grownBy a r := ⟨rfl, rfl, rfl, Nat.le_refl _, fun _ _ _ => rfl⟩
theorem grown_drew {a b : World} {r : Option Nat} (h : a.grownBy b r) : a.grownBy b.drew r := ⟨h.os, h.tape, h.output, h.size, h.block⟩
theorem heap_two (w : World) (o o2 : Obj) : ((w.alloc o).alloc o2).heap[w.heap.size]? = some o :=
  (Below.heap_alloc (w.alloc o) o2 w.heap.size (by simp)).trans (heap_alloc_new w o)
theorem heap_two' (w : World) (o o2 : Obj) : ((w.alloc o).alloc o2).heap[w.heap.size + 1]? = some o2 := by
  have := heap_alloc_new (w.alloc o) o2
  simpa using this

/-- how an element lies in cells -/
structure El (α : Type) where
  enc : α → List Value
  size : Nat
  len : ∀ x, (enc x).length = size
  one : ∀ x, ∀ u ∈ enc x, u.oneCell' = true

section
variable {α : Type} (E : El α)
def cellsE (xs : List α) : List Value := xs.flatMap E.enc
theorem cellsE_length (xs : List α) : (cellsE E xs).length = xs.length * E.size := by
  induction xs with
  | nil => simp [cellsE]
  | cons x r ih =>
    have : cellsE E (x :: r) = E.enc x ++ cellsE E r := rfl
    rw [this, List.length_append, ih, E.len, List.length_cons, Nat.succ_mul]
    omega
theorem cellsE_snoc (xs : List α) (x : α) : cellsE E (xs ++ [x]) = cellsE E xs ++ E.enc x := by simp [cellsE]
theorem cellsE_get {xs : List α} {i : Nat} {x : α} (h : xs[i]? = some x) {j : Nat} {u : Value} (hu : (E.enc x)[j]? = some u) : (cellsE E xs)[i * E.size + j]? = some u := by
  induction xs generalizing i with
  | nil => simp at h
  | cons y r ih =>
    have e : cellsE E (y :: r) = E.enc y ++ cellsE E r := rfl
    rw [e]
    cases i with
    | zero =>
      simp at h
      subst h
      have hj : j < (E.enc y).length := by
        rcases Nat.lt_or_ge j (E.enc y).length with h1 | h1
        · exact h1
        · rw [List.getElem?_eq_none h1] at hu; cases hu
      rw [Nat.zero_mul, Nat.zero_add, List.getElem?_append_left hj]
      exact hu
    | succ i =>
      rw [List.getElem?_append_right (by rw [E.len, Nat.succ_mul]; omega), E.len, show (i + 1) * E.size + j - E.size = i * E.size + j by rw [Nat.succ_mul]; omega]
      exact ih (by simpa using h)
theorem cellsE_one (xs : List α) : ∀ u ∈ cellsE E xs, u.oneCell' = true := by
  intro u hu
  simp only [cellsE, List.mem_flatMap] at hu
  obtain ⟨x, _, h⟩ := hu
  exact E.one x u h

/-- the slice at A reads as xs, in a block below B -/
def Reads (w : World) (B : Nat) (A : Option Addr) (xs : List α) : Prop :=
  xs = [] ∨ ∃ b off, A = some ⟨b, off, none⟩ ∧ b < B ∧ ∀ i x, xs[i]? = some x → ∀ j u, (E.enc x)[j]? = some u → w.cell? ⟨b, off + i * E.size + j, none⟩ = some u
/-- a slice that a call made -/
def OwnE (t : TypeId) (w : World) (base : Nat) (v : Value) (xs : List α) : Prop := w.ownsRow base t E.size v xs.length (cellsE E xs)
end

section
variable {α : Type} {E : El α}
theorem Reads.at {w : World} {B : Nat} {A : Option Addr} {xs : List α} (h : Reads E w B A xs) {k : Nat} (hk : k < xs.length) :
    ∃ b off, A = some ⟨b, off, none⟩ ∧ b < B ∧ ∀ i (hi : i < xs.length), ∀ j u, (E.enc xs[i])[j]? = some u → w.cell? ⟨b, off + i * E.size + j, none⟩ = some u := by
  rcases h with h | ⟨b, off, h1, h2, h3⟩
  · subst h; simp at hk
  · exact ⟨b, off, h1, h2, fun i hi j u hu => h3 i xs[i] (List.getElem?_eq_getElem hi) j u hu⟩
theorem Reads.below {w w' : World} {B : Nat} {A : Option Addr} {xs : List α} (h : Reads E w B A xs) (hb : Below B w w') : Reads E w' B A xs := by
  rcases h with h | ⟨b, off, h1, h2, h3⟩
  · exact .inl h
  · exact .inr ⟨b, off, h1, h2, fun i x hx j u hu => (hb.cell (p := ⟨b, off + i * E.size + j, none⟩) h2).trans (h3 i x hx j u hu)⟩
theorem Reads.mono {w : World} {B B' : Nat} {A : Option Addr} {xs : List α} (h : Reads E w B A xs) (hb : B ≤ B') : Reads E w B' A xs := by
  rcases h with h | ⟨b, off, h1, h2, h3⟩
  · exact .inl h
  · exact .inr ⟨b, off, h1, by omega, h3⟩
theorem Reads.up {w w' : World} {A : Option Addr} {xs : List α} (h : Reads E w w.heap.size A xs) (hb : Below w.heap.size w w') : Reads E w' w'.heap.size A xs := (h.below hb).mono hb.size
theorem Reads.take {w : World} {B : Nat} {A : Option Addr} {xs : List α} (h : Reads E w B A xs) (k : Nat) : Reads E w B A (xs.take k) := by
  rcases h with h | ⟨b, off, h1, h2, h3⟩
  · exact .inl (by rw [h]; simp)
  · refine .inr ⟨b, off, h1, h2, fun i x hx => h3 i x ?_⟩
    rw [List.getElem?_take] at hx
    split at hx
    · exact hx
    · cases hx

theorem OwnE.nil (t : TypeId) (w : World) (base : Nat) : OwnE E t w base (.slice none 0 0) [] := by
  have := World.ownsRow_nil w base t E.size
  exact this
theorem OwnE.slice {t : TypeId} {w : World} {base : Nat} {v : Value} {xs : List α} (h : OwnE E t w base v xs) : ∃ ao cap, v = .slice ao xs.length cap := slice_of h
theorem OwnE.cast {t : TypeId} {w : World} {base : Nat} {v : Value} {xs ys : List α} (e : xs = ys) (h : OwnE E t w base v xs) : OwnE E t w base v ys := e ▸ h
theorem OwnE.mono {t : TypeId} {w : World} {base base' : Nat} {v : Value} {xs : List α} (h : OwnE E t w base v xs) (hb : base' ≤ base) : OwnE E t w base' v xs := by
  refine ⟨h.1, ?_⟩
  rcases h.2 with hn | ⟨g, cap, cur, hv, hg, r⟩
  · exact .inl hn
  · exact .inr ⟨g, cap, cur, hv, Nat.le_trans hb hg, r⟩
theorem OwnE.below {t : TypeId} {w w' : World} {base B : Nat} {v : Value} {xs : List α} (h : OwnE E t w base v xs) (hb : Below B w w') (hB : w.heap.size ≤ B) : OwnE E t w' base v xs := by
  refine ⟨h.1, ?_⟩
  rcases h.2 with hn | ⟨g, cap, cur, hv, hbg, hg, rest⟩
  · exact .inl hn
  · exact .inr ⟨g, cap, cur, hv, hbg, by rw [hb.block g (Nat.lt_of_lt_of_le (World.ownsRow.lt h g (by rw [hv]; rfl)).2 hB)]; exact hg, rest⟩
theorem OwnE.alloc {t : TypeId} {w : World} {base : Nat} {v : Value} {xs : List α} (h : OwnE E t w base v xs) (o : Obj) : OwnE E t (w.alloc o) base v xs := World.ownsRow.alloc h o
theorem OwnE.kept {t : TypeId} {w w' : World} {base : Nat} {v : Value} {xs : List α} {row : Option Nat} (h : OwnE E t w base v xs) (hg : w.grownBy w' row) (hne : v.ownBlock = none ∨ v.ownBlock ≠ row) : OwnE E t w' base v xs := World.ownsRow.kept h hg hne
theorem OwnE.lt {t : TypeId} {w : World} {base : Nat} {v : Value} {xs : List α} (h : OwnE E t w base v xs) : ∀ k, v.ownBlock = some k → base ≤ k ∧ k < w.heap.size := World.ownsRow.lt h
theorem OwnE.pos {t : TypeId} {w : World} {base : Nat} {v : Value} {xs : List α} (h : OwnE E t w base v xs) (hp : 0 < xs.length) : ∃ g c, v = .slice (some ⟨g, 0, none⟩) xs.length c ∧ base ≤ g ∧ g < w.heap.size := by
  rcases h.2 with ⟨_, hn⟩ | ⟨g, cap, cur, hv, hb, hg, _⟩
  · omega
  · exact ⟨g, cap, hv, hb, (Array.getElem?_eq_some_iff.1 hg).1⟩
theorem OwnE.reads {t : TypeId} {w : World} {base : Nat} {v : Value} {xs : List α} (h : OwnE E t w base v xs) : ∃ A c, v = .slice A xs.length c ∧ Reads E w w.heap.size A xs := by
  rcases h.2 with ⟨hv, hn⟩ | ⟨g, cap, cur, hv, hb, hg, _⟩
  · exact ⟨none, 0, by rw [hv, hn], .inl (List.eq_nil_of_length_eq_zero hn)⟩
  · refine ⟨_, cap, hv, .inr ⟨g, 0, rfl, (Array.getElem?_eq_some_iff.1 hg).1, fun i x hx j u hu => ?_⟩⟩
    have := World.ownsRow.cells h (g := g) (by rw [hv]; rfl) _ _ (cellsE_get E hx hu)
    rw [addr_plain] at this
    rw [← this]
    congr 2
    omega
/-- two rows of different types lie in different blocks -/
theorem own_apart {β : Type} {G : El β} {t t' : TypeId} {w : World} {base base' : Nat} {u v : Value} {xs : List α} {ys : List β} (hne : t ≠ t') (hu : OwnE E t w base u xs) (hv : OwnE G t' w base' v ys) : u.ownBlock = none ∨ u.ownBlock ≠ v.ownBlock := by
  rcases hu.2 with ⟨e, _⟩ | ⟨g, cap, cur, e, _, hg, _⟩
  · left; rw [e]; rfl
  · right
    rcases hv.2 with ⟨e', _⟩ | ⟨g', cap', cur', e', _, hg', _⟩
    · rw [e, e']; simp [Value.ownBlock]
    · rw [e, e']
      simp only [Value.ownBlock]
      intro he
      injection he with he
      rw [he, hg'] at hg
      simp only [Option.some.injEq, Obj.cells.injEq] at hg
      exact hne hg.2.1.symm

/-- a new block's cells -/
theorem news_of {w : World} {g : Nat} {cs : Array Value} {t : TypeId} {x : α} (h : w.heap[g]? = some (.cells cs t (0, 0))) (hc : cs.toList = E.enc x) : ∀ j u, (E.enc x)[j]? = some u → w.cell? ((⟨g, 0, none⟩ : Addr).add j) = some u := by
  intro j u hu
  rw [addr_plain, Nat.zero_add, cell_of_row w g j cs t (0, 0) h, ← Array.getElem?_toList, hc]
  exact hu

theorem wpList_append_E {w : World} {ops : Array Oper} {rest : List Oper} {o : Oper} {a : Act} {Q : Exit → Act → World → Prop} (hgd : o.guard = none) (s x : Operand) (T t : TypeId)
    (ho : o.op = .call { callee := .builtin .append, args := #[s, x], argTypes := #[T, T] }) {z : Value} {bytes : Nat}
    (hT : Try.prog.underlying T = some (.slice t)) (hinfo : (Try.prog.info? t).map (fun i => (i.zero, i.size, i.bytes)) = some (some z, E.size, bytes)) (hzc : z.cells.size = E.size) (hpos : 0 < E.size) (hby : bytes ≤ 1000)
    (base : Nat) (v : Value) (xs : List α) (hs : a.eval s = v) (hown : OwnE E t w base v xs) (ad : Addr) (c : Nat) (m : α) (hx : a.eval x = .slice (some ad) 1 c)
    (hc : ∀ j u, (E.enc m)[j]? = some u → w.cell? (ad.add j) = some u) (hl : xs.length ≤ 1000000) (hbase : base ≤ w.heap.size)
    (hK : ∀ v' w', OwnE E t w' base v' (xs ++ [m]) → w.grownBy w' v.ownBlock → Below base w w' → wpList Try.prog ops Q rest (a.put o.dst v') w') : wpList Try.prog ops Q (o :: rest) a w := by
  obtain ⟨i0, hi, hz0, hz1, hz2⟩ := info_parts hinfo
  have hb : (xs.length + 1) * bytes ≤ 1000001 * 1000 := Nat.mul_le_mul (by omega) hby
  refine wpList_append_own w hgd s x T ho base t i0 z E.size bytes hT hi hz0 hz1 hz2 hzc hpos v xs.length (cellsE E xs) hs hown ad 1 c (E.enc m) hx (by rw [E.len]; omega) hc (E.one m) (by unfold maxLen; omega) (by omega) hbase ?_
  intro v' w' h1 h2 _
  refine hK v' w' ?_ h2 ((Below.refl base w).grown h2 hbase (fun k hk => (hown.lt k hk).1))
  unfold OwnE
  rw [cellsE_snoc, List.length_append]
  exact h1
end

/-! ints -/
def EInt : El Int := ⟨fun n => [.int .i64 n], 1, fun _ => rfl, fun x u hu => by simp at hu; subst hu; rfl⟩
theorem infoInt : (Try.prog.info? 3).map (fun i => (i.zero, i.size, i.bytes)) = some (some (.int .i64 0), 1, 8) := by kernel_rfl
abbrev Ints (w : World) (B : Nat) (A : Option Addr) (xs : List Int) : Prop := Reads EInt w B A xs
abbrev OwnI (w : World) (base : Nat) (v : Value) (xs : List Int) : Prop := OwnE EInt 3 w base v xs
theorem cellsE_int (xs : List Int) : cellsE EInt xs = xs.map (Value.int .i64) := by
  induction xs with
  | nil => rfl
  | cons x r ih =>
    have : cellsE EInt (x :: r) = .int .i64 x :: cellsE EInt r := rfl
    rw [this, ih]; rfl
theorem Ints.cells {w : World} {B : Nat} {A : Option Addr} {xs : List Int} (h : Ints w B A xs) {k : Nat} (hk : k < xs.length) :
    ∃ b off, A = some ⟨b, off, none⟩ ∧ b < B ∧ ∀ i, i < xs.length → w.cell? ⟨b, off + i, none⟩ = some (.int .i64 (xs.getD i 0)) := by
  obtain ⟨b, off, h1, h2, h3⟩ := Reads.at h hk
  refine ⟨b, off, h1, h2, fun i hi => ?_⟩
  have := h3 i hi 0 (.int .i64 xs[i]) rfl
  have e : EInt.size = 1 := rfl
  rw [e, Nat.mul_one, Nat.add_zero] at this
  rw [this]
  simp [List.getD, hi]
theorem OwnI.cell {w : World} {base g c n : Nat} {xs : List Int} (hn : n = xs.length) (h : OwnI w base (.slice (some ⟨g, 0, none⟩) n c) xs) {j : Nat} (hj : j < n) : w.cell? ⟨g, j, none⟩ = some (.int .i64 (xs.getD j 0)) := by
  subst hn
  obtain ⟨A, c', e, hR⟩ := OwnE.reads h
  simp only [Value.slice.injEq] at e
  obtain ⟨b, off, e1, _, h3⟩ := Ints.cells hR hj
  rw [← e.1] at e1
  injection e1 with e1
  injection e1 with e2 e3 _
  subst e2 e3
  have := h3 j hj
  rwa [Nat.zero_add] at this
theorem OwnI.free {w : World} {base g c n : Nat} {xs : List Int} (hn : n = xs.length) (h : OwnI w base (.slice (some ⟨g, 0, none⟩) n c) xs) (j : Nat) : w.frozen? ⟨g, j, none⟩ = false := by
  subst hn
  exact World.ownsRow.frozenAt h j
theorem OwnI.set {w : World} {base g c n : Nat} {xs : List Int} (hn : n = xs.length) (h : OwnI w base (.slice (some ⟨g, 0, none⟩) n c) xs) (j : Nat) (m : Int) :
    OwnI (w.setCell ⟨g, j, none⟩ (.int .i64 m)) base (.slice (some ⟨g, 0, none⟩) n c) (xs.set j m) ∧ w.grownBy (w.setCell ⟨g, j, none⟩ (.int .i64 m)) (some g) := by
  subst hn
  have := World.ownsRow.stored h j (.int .i64 m)
  refine ⟨?_, this.2⟩
  have e : (xs.set j m).length = xs.length := by simp
  unfold OwnI OwnE
  rw [e, cellsE_int, List.map_set, ← cellsE_int]
  exact this.1

/-- append of one int -/
theorem wpList_append_int {w : World} {ops : Array Oper} {rest : List Oper} {o : Oper} {a : Act} {Q : Exit → Act → World → Prop} (hgd : o.guard = none) (s x : Operand)
    (ho : o.op = .call { callee := .builtin .append, args := #[s, x], argTypes := #[22, 22] })
    (base : Nat) (v : Value) (xs : List Int) (hs : a.eval s = v) (hown : OwnI w base v xs) (g c : Nat) (m : Int) (hx : a.eval x = .slice (some ⟨g, 0, none⟩) 1 c)
    (hc : w.cell? ⟨g, 0, none⟩ = some (.int .i64 m)) (hl : xs.length ≤ 1000000) (hbase : base ≤ w.heap.size)
    (hK : ∀ v' w', OwnI w' base v' (xs ++ [m]) → w.grownBy w' v.ownBlock → Below base w w' → wpList Try.prog ops Q rest (a.put o.dst v') w') : wpList Try.prog ops Q (o :: rest) a w := by
  refine wpList_append_E (E := EInt) hgd s x 22 3 ho Try.underlying22 infoInt rfl (by decide) (by decide) base v xs hs hown ⟨g, 0, none⟩ c m hx ?_ hl hbase hK
  intro j u hj
  cases j with
  | zero => rw [addr_plain]; simp [EInt] at hj; subst hj; exact hc
  | succ j => simp [EInt] at hj

end Go.Proofs.Ytiafmhdicgmfaaa
