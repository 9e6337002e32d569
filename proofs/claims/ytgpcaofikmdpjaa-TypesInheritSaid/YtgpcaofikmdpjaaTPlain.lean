/-
  Types, plain: the error of a type graph; subtypes.
-/
import Derived.Test.YtgpcaofikmdpjaaTMem
import Derived.Test.YtgpcaofikmdpjaaLaws
namespace Go.Proofs.Ytgpcaofikmdpjaa

/-- the first that is not 0 of f k, f (k + 1), .. (d of them) -/
def nzD (f : Nat → Nat) : Nat → Nat → Nat
  | _, 0 => 0
  | k, d + 1 => if f k ≠ 0 then f k else nzD f (k + 1) d
theorem nzD_step {f : Nat → Nat} {n k : Nat} (hk : k < n) : nzD f k (n - k) = if f k ≠ 0 then f k else nzD f (k + 1) (n - (k + 1)) := by
  rw [show n - k = (n - (k + 1)) + 1 by omega]; rfl
theorem nzD_end {f : Nat → Nat} {n k : Nat} (hk : n ≤ k) : nzD f k (n - k) = 0 := by
  rw [show n - k = 0 by omega]; rfl

instance : Inhabited ByteArray := ⟨⟨#[]⟩⟩
instance : Inhabited Att := ⟨⟨⟨#[]⟩, 0, 0, []⟩⟩
instance : Inhabited Nod := ⟨⟨⟨#[]⟩, 0, false, []⟩⟩
instance : Inhabited Edg := ⟨⟨⟨#[]⟩, 0, 0, 0, 0, 0, 0⟩⟩

def isNm (s : ByteArray) : Bool := rightS 1 s.data.toList
def inB (n l h : Int) : Bool := decide (l ≤ n) && decide (n ≤ h)
/-- the error of the name number i of a list of names -/
def nameAt (l : List ByteArray) (i : Nat) : Nat := if isNm (l.getD i default) = false then 2 else if (l.take i).any (fun s => decide (s = l.getD i default)) then 5 else 0
def namesE (l : List ByteArray) : Nat := if 20 < l.length then 3 else nzD (nameAt l) 0 l.length
def attE (a : Att) : Nat := if a.ns.length = 0 then (if inB a.lo (-1000000) 1000000 && inB a.hi a.lo 1000000 then 0 else 6) else if namesE a.ns ≠ 0 then namesE a.ns else if a.lo ≠ 0 ∨ a.hi ≠ (a.ns.length : Int) - 1 then 6 else 0

theorem getD_at {α : Type} [Inhabited α] {l : List α} {k : Nat} (hk : k < l.length) : l.getD k default = l[k] := by rw [List.getD_eq_getElem?_getD, List.getElem?_eq_getElem hk]; rfl
theorem name_step {l : List ByteArray} {k : Nat} (hk : k < l.length) : nzD (nameAt l) k (l.length - k) = if isNm l[k] = false then 2 else if (l.take k).any (fun s => decide (s = l[k])) then 5 else nzD (nameAt l) (k + 1) (l.length - (k + 1)) := by
  rw [nzD_step hk]
  have e : nameAt l k = if isNm l[k] = false then 2 else if (l.take k).any (fun s => decide (s = l[k])) then 5 else 0 := by unfold nameAt; rw [getD_at hk]
  rw [e]
  generalize isNm l[k] = a
  generalize (l.take k).any (fun s => decide (s = l[k])) = b
  cases a <;> cases b <;> rfl

end Go.Proofs.Ytgpcaofikmdpjaa
