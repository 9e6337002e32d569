/-
  Lemmas on memory for TokenSpaced.
-/
import Derived.Test.YtgaiknigdgoaeaaSpaced
import Derived.Test.YtgaiknigdgoaeaaRefWrite
import Derived.Test.YtgaiknigdgoaeaaSame
import Derived.Shelf.Strings.BuilderK
namespace Go.Proofs.Ytgaiknigdgoaeaa
open Go.RowKit

theorem own_keep {w w' : World} {base : Nat} {e : TypeId} {size : Nat} {v : Value} {n : Nat} {xs : List Value} (h : w.ownsRow base e size v n xs) (hk : ∀ g, v.ownBlock = some g → w'.heap[g]? = w.heap[g]?) : w'.ownsRow base e size v n xs := by
  refine ⟨h.1, ?_⟩
  rcases h.2 with hn | ⟨g, cap, cur, rfl, hb, hg, rest⟩
  · exact .inl hn
  · exact .inr ⟨g, cap, cur, rfl, hb, (hk g rfl).trans hg, rest⟩

theorem own_block {w : World} {base : Nat} {e : TypeId} {size : Nat} {v : Value} {n : Nat} {xs : List Value} {g : Nat} (h : w.ownsRow base e size v n xs) (hg : v.ownBlock = some g) : ∃ cur : Array Value, w.heap[g]? = some (Obj.cells cur e (0, 0)) := by
  rcases h.2 with ⟨rfl, _⟩ | ⟨g', cap, cur, rfl, _, hgg, _⟩
  · simp [Value.ownBlock] at hg
  · simp [Value.ownBlock] at hg
    subst hg
    exact ⟨cur, hgg⟩

theorem bld_keep {B b : Nat} {bs : List Value} {w w' : World} (h : Lib.IsBuilder 40 5 B b bs w) (hb : w'.heap[b]? = w.heap[b]?)
    (hr : ∀ (g : Nat) (cs : Array Value), w.heap[g]? = some (Obj.cells cs 5 (0, 0)) → w'.heap[g]? = w.heap[g]?) : Lib.IsBuilder 40 5 B b bs w' := by
  have key : ∀ p, Lib.BuilderAt 40 5 B b p bs w → Lib.BuilderAt 40 5 B b p bs w' := by
    rintro p ⟨hB, v, hbk, hown, hne⟩
    refine ⟨hB, v, hb.trans hbk, own_keep hown (fun g hg => ?_), hne⟩
    obtain ⟨cur, hc⟩ := own_block hown hg
    exact hr g cur hc
  rcases h with h | h
  · exact .inl (key _ h)
  · exact .inr (key _ h)

theorem bld_block {B b : Nat} {bs : List Value} {w : World} (h : Lib.IsBuilder 40 5 B b bs w) : ∃ cs : Array Value, w.heap[b]? = some (Obj.cells cs 40 (0, 0)) := by
  rcases h with ⟨_, v, hb, _⟩ | ⟨_, v, hb, _⟩
  · exact ⟨_, hb⟩
  · exact ⟨_, hb⟩

theorem block_tok (w : World) (t : Tok) : Toks (w.alloc (.cells #[.int .i64 t.kind, .string ⟨t.text.toArray⟩, .int .i64 t.line] 29)) (w.heap.size + 1) (some ⟨w.heap.size, 0, none⟩) [t] := by
  have hn : (w.alloc (.cells #[.int .i64 t.kind, .string ⟨t.text.toArray⟩, .int .i64 t.line] 29)).heap[w.heap.size]? = some (.cells #[.int .i64 t.kind, .string ⟨t.text.toArray⟩, .int .i64 t.line] 29 (0, 0)) := heap_alloc_new w _
  refine .inr ⟨w.heap.size, 0, rfl, by omega, fun i x hx => ?_⟩
  match i, hx with
  | 0, hx =>
    simp only [List.getElem?_cons_zero, Option.some.injEq] at hx
    subst hx
    exact ⟨Lib.cell_of_heap hn 0, Lib.cell_of_heap hn 1, Lib.cell_of_heap hn 2⟩
  | i + 1, hx => simp at hx

theorem refWrite_one (t : Tok) (hr : rightS t.kind t.text = true) (q : ByteArray) (hq : q.data.toList = quoteS t.kind t.text) (w : World) :
    Calls Try.prog 18 #[.slice (some ⟨w.heap.size, 0, none⟩) 1 1] (w.alloc (.cells #[.int .i64 t.kind, .string ⟨t.text.toArray⟩, .int .i64 t.line] 29)) fun e w' =>
      e = .returned (.tuple #[.string q, .int .i64 0]) ∧ Below (w.heap.size + 1) (w.alloc (.cells #[.int .i64 t.kind, .string ⟨t.text.toArray⟩, .int .i64 t.line] 29)) w' := by
  have h60 := right_len hr
  have hw : writeS [t] = (quoteS t.kind t.text, 0) := by
    have ha : allRight [t] = true := by simp [allRight, hr]
    have := quote_len hr
    rw [writeS_ok (by simp) ha (by rw [wtext_one]; omega), wtext_one]
  have hz : (w.alloc (.cells #[.int .i64 t.kind, .string ⟨t.text.toArray⟩, .int .i64 t.line] 29)).heap.size = w.heap.size + 1 := by simp
  have := refWrite_any [t] (some ⟨w.heap.size, 0, none⟩) 1 _ (by rw [hz]; exact block_tok w t) (by intro x hx; simp at hx; subst hx; omega) (by simp)
  rw [hw, hz] at this
  rw [show q = ⟨(quoteS t.kind t.text).toArray⟩ from bytes_ext (by rw [hq])]
  exact this

/-- a slice of bytes that came in -/
def Byts (w : World) (B : Nat) (A : Option Addr) (zs : List Int) : Prop :=
  zs = [] ∨ ∃ b off, A = some ⟨b, off, none⟩ ∧ b < B ∧ ∀ i z, zs[i]? = some z → w.cell? ⟨b, off + i, none⟩ = some (.int .u8 z)
theorem Byts.below {w w' : World} {B : Nat} {A : Option Addr} {zs : List Int} (h : Byts w B A zs) (hb : Below B w w') : Byts w' B A zs := by
  rcases h with h | ⟨b, off, rfl, hlt, h⟩
  · exact .inl h
  · exact .inr ⟨b, off, rfl, hlt, fun i z hz => (hb.cell (p := ⟨b, _, none⟩) hlt).trans (h i z hz)⟩
theorem Byts.at_ {w : World} {B : Nat} {A : Option Addr} {zs : List Int} (h : Byts w B A zs) {k : Nat} (hk : k < zs.length) : ∃ b off, A = some ⟨b, off, none⟩ ∧ b < B ∧ w.cell? ⟨b, off + k, none⟩ = some (.int .u8 zs[k]) := by
  rcases h with h | ⟨b, off, rfl, hlt, h⟩
  · rw [h] at hk; simp at hk
  · exact ⟨b, off, rfl, hlt, h k _ (List.getElem?_eq_getElem hk)⟩

theorem count_gap (g : ByteArray) (w : World) : Calls Try.prog 26 #[.string g, .string ⟨#[10]⟩] w fun e w' => e = .returned (.int .i64 (nl g.data.toList)) ∧ w = w' := by
  refine (Try.strings_Count_one g 10 w).mono ?_
  rintro e w' ⟨rfl, rfl⟩
  exact ⟨by unfold Lib.countByte; rw [nl_count], rfl⟩

theorem count_from (w : World) (g : ByteArray) (W : World) (h : Below w.heap.size w W) : Calls Try.prog 26 #[.string g, .string ⟨#[10]⟩] W fun e w' => e = .returned (.int .i64 (nl g.data.toList)) ∧ Below w.heap.size w w' := by
  refine (count_gap g W).mono ?_
  rintro e w' ⟨rfl, rfl⟩
  exact ⟨rfl, h⟩

theorem still_append {wC wD : World} {bx i n base : Nat} {u v : Value} {X : Obj} {xs : List Value} {cs : Array Value} {T : TypeId} (hT : T ≠ 29)
    (hx : ∃ cs : Array Value, wC.heap[bx]? = some (Obj.cells cs 29 (0, 0))) (hown : wC.ownsRow base 29 3 v n xs) (hg : ((wC.setCell ⟨bx, 2, none⟩ u).alloc X).grownBy wD v.ownBlock)
    (hi : wC.heap[i]? = some (Obj.cells cs T (0, 0))) : wD.heap[i]? = wC.heap[i]? := by
  have hlt : i < wC.heap.size := by
    rcases Nat.lt_or_ge i wC.heap.size with h | h
    · exact h
    · rw [Array.getElem?_eq_none h] at hi; cases hi
  have h1 : i ≠ bx := by
    rintro rfl
    obtain ⟨c, hc⟩ := hx
    rw [hi] at hc
    simp at hc
    exact hT hc.2
  have h2 : some i ≠ v.ownBlock := by
    intro e
    obtain ⟨c, hc⟩ := own_block hown e.symm
    rw [hi] at hc
    simp at hc
    exact hT hc.2
  have hz : (wC.setCell ⟨bx, 2, none⟩ u).heap.size = wC.heap.size := by simp [World.setCell]
  rw [hg.block i (by rw [show ((wC.setCell ⟨bx, 2, none⟩ u).alloc X).heap.size = (wC.setCell ⟨bx, 2, none⟩ u).heap.size + 1 by simp, hz]; omega) h2, Below.heap_alloc _ _ _ (by rw [hz]; exact hlt), Below.heap_setCell _ _ _ _ h1]

theorem bld_append {wC wD : World} {B b bx n base : Nat} {u v : Value} {X : Obj} {xs bs : List Value} (hI : Lib.IsBuilder 40 5 B b bs wC)
    (hx : ∃ cs : Array Value, wC.heap[bx]? = some (Obj.cells cs 29 (0, 0))) (hown : wC.ownsRow base 29 3 v n xs) (hg : ((wC.setCell ⟨bx, 2, none⟩ u).alloc X).grownBy wD v.ownBlock) :
    Lib.IsBuilder 40 5 B b bs wD := by
  obtain ⟨cs, hcs⟩ := bld_block hI
  exact bld_keep hI (still_append (by decide) hx hown hg hcs) (fun g cs hc => still_append (by decide) hx hown hg hc)

theorem set_alloc_cell (w : World) (a : Addr) (u : Value) (cs : Array Value) (T : TypeId) (j : Nat) : ((w.setCell a u).alloc (.cells cs T)).cell? ⟨w.heap.size, j, none⟩ = cs[j]? := by
  have hn : ((w.setCell a u).alloc (.cells cs T)).heap[(w.setCell a u).heap.size]? = some (.cells cs T (0, 0)) := heap_alloc_new _ _
  have hz : (w.setCell a u).heap.size = w.heap.size := by simp [World.setCell]
  rw [hz] at hn
  exact Lib.cell_of_heap hn j

/-- String, with what it leaves alone: every block that is neither the builder's nor a row of bytes -/
theorem string_keep (B b : Nat) (l : List UInt8) (w : World) (h : Lib.IsBuilder 40 5 B b (Lib.byteCells l) w) (hBw : B ≤ w.heap.size) :
    Calls Try.prog 28 #[.pointer (some ⟨b, 0, none⟩)] w fun e w' => e = .returned (.string ⟨l.toArray⟩) ∧ Below B w w' ∧ Lib.OthersKept 5 (some b) w w' := by
  refine (Any.Builder_String_any_k Try.lays169 Try.Builder_Extra_169 B b l w (Lib.IsBuilderF.of h) hBw).mono ?_
  rintro e w' ⟨rfl, _, h1, h2⟩
  exact ⟨rfl, h1, h2⟩

end Go.Proofs.Ytgaiknigdgoaeaa
