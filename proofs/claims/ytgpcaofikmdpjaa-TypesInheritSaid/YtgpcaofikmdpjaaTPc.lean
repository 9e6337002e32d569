/-
  Types: what the laws ask of the program's functions; the reference keeps the same contracts.
-/
import Derived.Test.YtgpcaofikmdpjaaTFew
namespace Go.Proofs.Ytgpcaofikmdpjaa
open Go.RowKit

/-- there is room for what a type graph's slices hold -/
def CapT (t : Typ) (cn ce : Nat) : Prop := t.nodes.length ≤ cn ∧ t.edges.length ≤ ce
abbrev I64 (x : Int) : Prop := -9223372036854775808 ≤ x ∧ x ≤ 9223372036854775807
def ValC (f : FuncId) : Prop := ∀ (t : Typ) (An : Option Addr) (cn : Nat) (Ae : Option Addr) (ce : Nat) (w : World), FewT t → CapT t cn ce → TyC w An Ae t →
  Calls Try.prog f #[tyval An t.nodes.length cn Ae t.edges.length ce] w fun e w' => e = .returned (.tuple #[.string (validR t).2, .int .i64 (validR t).1]) ∧ Below w.heap.size w w'
def IsC (f : FuncId) : Prop := ∀ (t : Typ) (An : Option Addr) (cn : Nat) (Ae : Option Addr) (ce : Nat) (a b : Int) (w : World), FewT t → CapT t cn ce → I64 a → I64 b → TyC w An Ae t →
  Calls Try.prog f #[tyval An t.nodes.length cn Ae t.edges.length ce, .int .i64 a, .int .i64 b] w fun e w' => e = .returned (.bool (isS t a b)) ∧ Below w.heap.size w w'
def AncC (f : FuncId) : Prop := ∀ (t : Typ) (An : Option Addr) (cn : Nat) (Ae : Option Addr) (ce : Nat) (a : Int) (w : World), FewT t → CapT t cn ce → I64 a → TyC w An Ae t →
  Calls Try.prog f #[tyval An t.nodes.length cn Ae t.edges.length ce, .int .i64 a] w fun e w' => ListR (ancR t a) (givenE t a a) e w' ∧ Below w.heap.size w w'
def BelC (f : FuncId) : Prop := ∀ (t : Typ) (An : Option Addr) (cn : Nat) (Ae : Option Addr) (ce : Nat) (a : Int) (w : World), FewT t → CapT t cn ce → I64 a → TyC w An Ae t →
  Calls Try.prog f #[tyval An t.nodes.length cn Ae t.edges.length ce, .int .i64 a] w fun e w' => ListR (belR t a) (givenE t a a) e w' ∧ Below w.heap.size w w'
def AttC (f : FuncId) : Prop := ∀ (t : Typ) (An : Option Addr) (cn : Nat) (Ae : Option Addr) (ce : Nat) (a : Int) (w : World), FewT t → CapT t cn ce → I64 a → TyC w An Ae t →
  Calls Try.prog f #[tyval An t.nodes.length cn Ae t.edges.length ce, .int .i64 a] w fun e w' => AttsR (attR t a) (givenE t a a) e w' ∧ Below w.heap.size w w'
def FitC (f : FuncId) : Prop := ∀ (t : Typ) (An : Option Addr) (cn : Nat) (Ae : Option Addr) (ce : Nat) (d a b : Int) (w : World), FewT t → CapT t cn ce → I64 d → I64 a → I64 b → TyC w An Ae t →
  Calls Try.prog f #[tyval An t.nodes.length cn Ae t.edges.length ce, .int .i64 d, .int .i64 a, .int .i64 b] w fun e w' => e = .returned (.bool (fitsS t d a b)) ∧ Below w.heap.size w w'
def MeetC (f : FuncId) : Prop := ∀ (t : Typ) (An : Option Addr) (cn : Nat) (Ae : Option Addr) (ce : Nat) (a b : Int) (w : World), FewT t → CapT t cn ce → I64 a → I64 b → TyC w An Ae t →
  Calls Try.prog f #[tyval An t.nodes.length cn Ae t.edges.length ce, .int .i64 a, .int .i64 b] w fun e w' => e = .returned (.tuple #[.int .i64 (meetS t a b).1, .int .i64 (meetS t a b).2]) ∧ Below w.heap.size w w'
def JoinC (f : FuncId) : Prop := ∀ (t : Typ) (An : Option Addr) (cn : Nat) (Ae : Option Addr) (ce : Nat) (a b : Int) (w : World), FewT t → CapT t cn ce → I64 a → I64 b → TyC w An Ae t →
  Calls Try.prog f #[tyval An t.nodes.length cn Ae t.edges.length ce, .int .i64 a, .int .i64 b] w fun e w' => e = .returned (.tuple #[.int .i64 (joinS t a b).1, .int .i64 (joinS t a b).2]) ∧ Below w.heap.size w w'
structure TC : Prop where
  val : ValC 13
  isx : IsC 15
  anc : AncC 17
  bel : BelC 19
  att : AttC 21
  fit : FitC 25
  meet : MeetC 27
  join : JoinC 29
  name : NameC 55

theorem valRf (hn : NameC 55) : ValC 14 := fun t An cn Ae ce w hf _ hT => valid_any hn t An cn Ae ce hf w hT
theorem isRf (hn : NameC 55) : IsC 16 := fun t An cn Ae ce a b w hf _ _ _ hT => is_any hn t An cn Ae ce a b hf w hT
theorem ancRf (hn : NameC 55) : AncC 18 := fun t An cn Ae ce a w hf _ _ hT => ancestors_any hn t An cn Ae ce a hf w hT
theorem belRf (hn : NameC 55) : BelC 20 := fun t An cn Ae ce a w hf _ _ hT => belowS_any hn t An cn Ae ce a hf w hT
theorem attRf (hn : NameC 55) : AttC 22 := fun t An cn Ae ce a w hf _ _ hT => attrsS_any hn t An cn Ae ce a hf w hT
theorem fitRf (hn : NameC 55) : FitC 26 := fun t An cn Ae ce d a b w hf _ _ _ _ hT => fits_any hn t An cn Ae ce d a b hf w hT
theorem meetRf (hn : NameC 55) : MeetC 28 := fun t An cn Ae ce a b w hf _ _ _ hT => meet_any hn t An cn Ae ce a b hf w hT
theorem joinRf (hn : NameC 55) : JoinC 30 := fun t An cn Ae ce a b w hf _ _ _ hT => join_any hn t An cn Ae ce a b hf w hT

/-- what is said of awake -/
def AwC : Prop := ∀ w, Calls Try.prog 11 #[] w fun e w' => e = .returned (.bool true) ∧ Below w.heap.size w w'
/-- lengths that memory allows -/
def BigT (t : Typ) : Prop := ∀ x ∈ t.nodes, x.att.length ≤ 200000000000000

end Go.Proofs.Ytgpcaofikmdpjaa
