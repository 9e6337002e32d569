/-
  Types: type graphs in memory.
-/
import Derived.Test.YtgpcaofikmdpjaaDeep
namespace Go.Proofs.Ytgpcaofikmdpjaa
open Go.RowKit

structure Att where
  nm : ByteArray
  lo : Int
  hi : Int
  ns : List ByteArray
structure Nod where
  nm : ByteArray
  par : Int
  ab : Bool
  att : List Att
structure Edg where
  nm : ByteArray
  fr : Int
  to : Int
  ol : Int
  oh : Int
  il : Int
  ih : Int
structure Typ where
  nodes : List Nod
  edges : List Edg

def EStr : El ByteArray := ⟨fun s => [.string s], 1, fun _ => rfl, fun x u hu => by simp at hu; subst hu; rfl⟩
def EEdg : El Edg := ⟨fun x => [.string x.nm, .int .i64 x.fr, .int .i64 x.to, .int .i64 x.ol, .int .i64 x.oh, .int .i64 x.il, .int .i64 x.ih], 7, fun _ => rfl, fun x u hu => by simp at hu; rcases hu with rfl | rfl | rfl | rfl | rfl | rfl | rfl <;> rfl⟩
abbrev Strs (w : World) (B : Nat) (A : Option Addr) (xs : List ByteArray) : Prop := Reads EStr w B A xs
def DAtt : DEl Att := ⟨4, fun w B x cs => ∃ A c, cs = [.string x.nm, .int .i64 x.lo, .int .i64 x.hi, .slice A x.ns.length c] ∧ Strs w B A x.ns ∧ x.ns.length ≤ c,
  fun h => by obtain ⟨A, c, rfl, _⟩ := h; rfl, fun h hb => by obtain ⟨A, c, e, h, hc⟩ := h; exact ⟨A, c, e, h.below hb, hc⟩, fun h hb => by obtain ⟨A, c, e, h, hc⟩ := h; exact ⟨A, c, e, h.mono hb, hc⟩⟩
abbrev Atts (w : World) (B : Nat) (A : Option Addr) (xs : List Att) : Prop := DReads DAtt w B A xs
def DNod : DEl Nod := ⟨4, fun w B x cs => ∃ A c, cs = [.string x.nm, .int .i64 x.par, .bool x.ab, .slice A x.att.length c] ∧ Atts w B A x.att,
  fun h => by obtain ⟨A, c, rfl, _⟩ := h; rfl, fun h hb => by obtain ⟨A, c, e, h⟩ := h; exact ⟨A, c, e, h.below hb⟩, fun h hb => by obtain ⟨A, c, e, h⟩ := h; exact ⟨A, c, e, h.mono hb⟩⟩
abbrev Nods (w : World) (B : Nat) (A : Option Addr) (xs : List Nod) : Prop := DReads DNod w B A xs
abbrev Edgs (w : World) (B : Nat) (A : Option Addr) (xs : List Edg) : Prop := Reads EEdg w B A xs
/-- the value of a type graph: two slices -/
abbrev tyval (An : Option Addr) (n cn : Nat) (Ae : Option Addr) (m ce : Nat) : Value := .agg #[.slice An n cn, .slice Ae m ce]
/-- a value that reads as a type graph -/
def TypV (w : World) (B : Nat) (v : Value) (t : Typ) : Prop := ∃ An cn Ae ce, v = tyval An t.nodes.length cn Ae t.edges.length ce ∧ Nods w B An t.nodes ∧ Edgs w B Ae t.edges
theorem TypV.up {w w' : World} {v : Value} {t : Typ} (h : TypV w w.heap.size v t) (hb : Below w.heap.size w w') : TypV w' w'.heap.size v t := by
  obtain ⟨An, cn, Ae, ce, e, h1, h2⟩ := h
  exact ⟨An, cn, Ae, ce, e, h1.up hb, Reads.up h2 hb⟩

theorem Strs.cell {w : World} {B : Nat} {A : Option Addr} {xs : List ByteArray} (h : Strs w B A xs) {k : Nat} (hk : k < xs.length) : ∃ b off, A = some ⟨b, off, none⟩ ∧ b < B ∧ w.cell? ⟨b, off + k, none⟩ = some (.string xs[k]) := by
  obtain ⟨b, off, h1, h2, h3⟩ := Reads.at h hk
  have := h3 k hk 0 _ rfl
  rw [show EStr.size = 1 from rfl, Nat.mul_one, Nat.add_zero] at this
  exact ⟨b, off, h1, h2, this⟩
theorem Atts.cells {w : World} {B : Nat} {A : Option Addr} {xs : List Att} (h : Atts w B A xs) {k : Nat} (hk : k < xs.length) :
    ∃ b off A' c', A = some ⟨b, off, none⟩ ∧ b < B ∧ w.cell? ⟨b, off + k * 4, none⟩ = some (.string xs[k].nm) ∧ w.cell? ⟨b, off + k * 4 + 1, none⟩ = some (.int .i64 xs[k].lo) ∧ w.cell? ⟨b, off + k * 4 + 2, none⟩ = some (.int .i64 xs[k].hi) ∧
      w.cell? ⟨b, off + k * 4 + 3, none⟩ = some (.slice A' xs[k].ns.length c') ∧ Strs w B A' xs[k].ns := by
  obtain ⟨b, off, cs, h1, h2, ⟨A', c', rfl, h3, _⟩, h4⟩ := DReads.at h hk
  exact ⟨b, off, A', c', h1, h2, h4 0 _ rfl, h4 1 _ rfl, h4 2 _ rfl, h4 3 _ rfl, h3⟩
theorem Atts.cellsC {w : World} {B : Nat} {A : Option Addr} {xs : List Att} (h : Atts w B A xs) {k : Nat} (hk : k < xs.length) :
    ∃ b off A' c', A = some ⟨b, off, none⟩ ∧ b < B ∧ w.cell? ⟨b, off + k * 4, none⟩ = some (.string xs[k].nm) ∧ w.cell? ⟨b, off + k * 4 + 1, none⟩ = some (.int .i64 xs[k].lo) ∧ w.cell? ⟨b, off + k * 4 + 2, none⟩ = some (.int .i64 xs[k].hi) ∧
      w.cell? ⟨b, off + k * 4 + 3, none⟩ = some (.slice A' xs[k].ns.length c') ∧ Strs w B A' xs[k].ns ∧ xs[k].ns.length ≤ c' := by
  obtain ⟨b, off, cs, h1, h2, ⟨A', c', rfl, h3, h5⟩, h4⟩ := DReads.at h hk
  exact ⟨b, off, A', c', h1, h2, h4 0 _ rfl, h4 1 _ rfl, h4 2 _ rfl, h4 3 _ rfl, h3, h5⟩
theorem Nods.cells {w : World} {B : Nat} {A : Option Addr} {xs : List Nod} (h : Nods w B A xs) {k : Nat} (hk : k < xs.length) :
    ∃ b off A' c', A = some ⟨b, off, none⟩ ∧ b < B ∧ w.cell? ⟨b, off + k * 4, none⟩ = some (.string xs[k].nm) ∧ w.cell? ⟨b, off + k * 4 + 1, none⟩ = some (.int .i64 xs[k].par) ∧ w.cell? ⟨b, off + k * 4 + 2, none⟩ = some (.bool xs[k].ab) ∧
      w.cell? ⟨b, off + k * 4 + 3, none⟩ = some (.slice A' xs[k].att.length c') ∧ Atts w B A' xs[k].att := by
  obtain ⟨b, off, cs, h1, h2, ⟨A', c', rfl, h3⟩, h4⟩ := DReads.at h hk
  exact ⟨b, off, A', c', h1, h2, h4 0 _ rfl, h4 1 _ rfl, h4 2 _ rfl, h4 3 _ rfl, h3⟩
theorem Edgs.cells {w : World} {B : Nat} {A : Option Addr} {xs : List Edg} (h : Edgs w B A xs) {k : Nat} (hk : k < xs.length) :
    ∃ b off, A = some ⟨b, off, none⟩ ∧ b < B ∧ w.cell? ⟨b, off + k * 7, none⟩ = some (.string xs[k].nm) ∧ w.cell? ⟨b, off + k * 7 + 1, none⟩ = some (.int .i64 xs[k].fr) ∧ w.cell? ⟨b, off + k * 7 + 2, none⟩ = some (.int .i64 xs[k].to) ∧
      w.cell? ⟨b, off + k * 7 + 3, none⟩ = some (.int .i64 xs[k].ol) ∧ w.cell? ⟨b, off + k * 7 + 4, none⟩ = some (.int .i64 xs[k].oh) ∧ w.cell? ⟨b, off + k * 7 + 5, none⟩ = some (.int .i64 xs[k].il) ∧ w.cell? ⟨b, off + k * 7 + 6, none⟩ = some (.int .i64 xs[k].ih) := by
  obtain ⟨b, off, h1, h2, h3⟩ := Reads.at h hk
  exact ⟨b, off, h1, h2, h3 k hk 0 _ rfl, h3 k hk 1 _ rfl, h3 k hk 2 _ rfl, h3 k hk 3 _ rfl, h3 k hk 4 _ rfl, h3 k hk 5 _ rfl, h3 k hk 6 _ rfl⟩

end Go.Proofs.Ytgpcaofikmdpjaa
