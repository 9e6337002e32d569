/-
  Arguments: a slice of ints, a slice of bytes.
-/
import Derived.Test.YtdflgcfjfgojkaaMade
import Derived.ProofKit
import Derived.OpenShut
import Derived.Deep.Slices
import Derived.SizedLaws
namespace Go.Proofs.Ytdflgcfjfgojkaa
open Go.RowKit

theorem cellsInt : Try.prog.cellsOf 3 = 1 := by kernel_rfl
theorem cellsByte : Try.prog.cellsOf 5 = 1 := by kernel_rfl
theorem laidOut : laidOutB Try.prog = true := by kernel_rfl
theorem ownNone : ownKnob Try.prog.godebug = none := by kernel_rfl

theorem addr_known {W : World} {a : Addr} {v : Value} (h : W.cell? a = some v) : ∃ b off, a = ⟨b, off, none⟩ ∧ b < W.heap.size := by
  obtain ⟨b, off, sp⟩ := a
  have h1 : sp = none := World.cell?_spot h
  subst h1
  exact ⟨b, off, rfl, World.block_lt_of_cell? W _ h⟩

section
open Go.ChangeShapes Go.WideShapes Go.Deep

theorem open_i {H : Type} {enc : TypeId × Value → H} {W : World} {fuel : Nat} {cs : List Value} {x : DataW H × List MemPlace}
    (h : DataW.trod enc Try.prog W 0 (fun _ => true) true fuel 22 cs = some x) :
    ∃ (A : Option Addr) (xs : List Int) (c : Nat), cs = [.slice A xs.length c] ∧ Ints W W.heap.size A xs ∧ xs.length ≤ maxLen := by
  rcases open_ints Try.underlying22 Try.underlying3 cellsInt h with ⟨rfl, rfl⟩ | ⟨a, len, cap, zs, rfl, _, hlc, hcm, hz, rfl, hc, _⟩
  · exact ⟨none, [], 0, rfl, .inl rfl, by simp⟩
  · simp only [if_true] at hz
    have hl : (zs.take len).length = len := by rw [List.length_take]; omega
    refine ⟨some a, zs.take len, cap, by rw [hl], ?_, by omega⟩
    by_cases h0 : len = 0
    · subst h0; exact .inl (by simp)
    · obtain ⟨b, off, ea, hb⟩ := addr_known (hc 0 (by omega))
      obtain ⟨b', off', sp'⟩ := a
      have hs : sp' = none := by simpa [Addr.add] using World.cell?_spot (hc 0 (by omega))
      subst hs
      rw [addr_plain] at ea
      injection ea with e1 _ _
      subst e1
      refine .inr ⟨b', off', rfl, hb, fun i y hy => ?_⟩
      have hi : i < len := by
        rcases Nat.lt_or_ge i len with h1 | h1
        · exact h1
        · rw [List.getElem?_eq_none (by rw [hl]; exact h1)] at hy; cases hy
      rw [List.getElem?_take, if_pos hi] at hy
      have := hc i (by omega)
      rw [addr_plain] at this
      rw [this]
      simp [List.getD, hy]

theorem open_b {H : Type} {enc : TypeId × Value → H} {W : World} {fuel : Nat} {cs : List Value} {x : DataW H × List MemPlace}
    (h : DataW.trod enc Try.prog W 0 (fun _ => true) true fuel 39 cs = some x) :
    ∃ (A : Option Addr) (bs : List Nat) (c : Nat), cs = [.slice A bs.length c] ∧ Byts W W.heap.size A bs ∧ bs.length ≤ c ∧ c ≤ maxLen := by
  rcases open_ints Try.underlying39 Try.underlying5 cellsByte h with ⟨rfl, rfl⟩ | ⟨a, len, cap, zs, rfl, _, hlc, hcm, hz, rfl, hc, hwf⟩
  · exact ⟨none, [], 0, rfl, .inl rfl, by simp, by simp⟩
  · simp only [if_true] at hz
    have hl : ((zs.take len).map Int.toNat).length = len := by rw [List.length_map, List.length_take]; omega
    refine ⟨some a, (zs.take len).map Int.toNat, cap, by rw [hl], ?_, by omega, hcm⟩
    by_cases h0 : len = 0
    · subst h0; exact .inl (by simp)
    · obtain ⟨b, off, ea, hb⟩ := addr_known (hc 0 (by omega))
      obtain ⟨b', off', sp'⟩ := a
      have hs : sp' = none := by simpa [Addr.add] using World.cell?_spot (hc 0 (by omega))
      subst hs
      rw [addr_plain] at ea
      injection ea with e1 _ _
      subst e1
      refine .inr ⟨b', off', rfl, hb, fun i hi => ?_⟩
      rw [hl] at hi
      have h1 := hc i (by omega)
      have hlt : i < zs.length := by omega
      have h2 := hwf (zs.getD i 0) (by rw [List.getD, List.getElem?_eq_getElem hlt]; exact List.getElem_mem hlt)
      have e : at_ ((zs.take len).map Int.toNat) i = (zs.getD i 0).toNat := by
        have h3 : i < ((zs.take len).map Int.toNat).length := by rw [hl]; exact hi
        rw [← at_get h3]
        simp [List.getD, hlt]
      have h4 : 0 ≤ zs.getD i 0 ∧ zs.getD i 0 < 256 := by
        generalize zs.getD i 0 = z at h2
        simp [Lit.wf, IntKind.min, IntKind.max, IntKind.signed, IntKind.bits] at h2
        omega
      rw [addr_plain] at h1
      rw [e, h1]
      refine ⟨by omega, ?_⟩
      congr 2
      omega
end

end Go.Proofs.Ytdflgcfjfgojkaa
