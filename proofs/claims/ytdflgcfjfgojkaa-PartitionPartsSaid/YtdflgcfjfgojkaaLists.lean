/-
  Contracts of finest (program), Finest, Merge (reference), slices.Clone, slices.Equal at ints.
-/
import Derived.Test.YtdflgcfjfgojkaaArms
namespace Go.Proofs.Ytdflgcfjfgojkaa
open Go.RowKit

/-- the first k places are numbered, the rest are 0 -/
def upTo (k n : Nat) : List Nat := List.range k ++ List.replicate (n - k) 0
theorem upTo_length {k n : Nat} (h : k ≤ n) : (upTo k n).length = n := by simp [upTo]; omega
theorem upTo_set {k n : Nat} (h : k < n) : (upTo k n).set k k = upTo (k + 1) n := by
  unfold upTo
  rw [List.set_append_right _ _ (by simp), List.length_range, Nat.sub_self, List.range_succ]
  obtain ⟨m, hm⟩ : ∃ m, n - k = m + 1 := ⟨n - k - 1, by omega⟩
  rw [hm, show n - (k + 1) = m by omega, List.replicate_succ, List.set_cons_zero]
  simp
theorem upTo_zero (n : Nat) : upTo 0 n = List.replicate n 0 := by simp [upTo]
theorem upTo_all (n : Nat) : upTo n n = List.range n := by simp [upTo]

set_option maxHeartbeats 1000000 in
theorem finest_any (n : Nat) (w : World) (hn : n ≤ 1000) :
    Calls Try.prog 40 #[.int .i64 n] w fun e w' => ∃ g, e = .returned (.slice (some ⟨g, 0, none⟩) n n) ∧ Own w' w.heap.size (.slice (some ⟨g, 0, none⟩) n n) (List.range n) ∧ Below w.heap.size w w' := by
  go_enter Try.func40, Try.ntmps40
  go_wp2_with (at_make; refine wpList_make_ints rfl _ _ rfl w.heap.size n rfl rfl (by omega) (Nat.le_refl _) ?_; intro w1 hown hb hsz)
  have HO := Lib.hid hown
  have HB := Lib.hid hb
  clear hown hb
  go_wp2_with fail
  go_loopw [9] (fun x wr => ∃ j : Nat, j ≤ n ∧ x = .int .i64 j ∧ Own wr w.heap.size (.slice (some ⟨w.heap.size, 0, none⟩) n n) (upTo j n) ∧ Below w.heap.size w wr) (fun x _ => n - (intOf x).toNat)
  case atStart => exact ⟨0, Nat.zero_le _, rfl, by rw [upTo_zero]; exact HO.out, HB.out⟩
  case round =>
    obtain ⟨j, hj, rfl, hown, hbel⟩ := hrel
    have HW := Lib.hid hown
    have HG := Lib.hid hbel
    clear hown hbel
    by_cases hlt : j < n
    · have hln := upTo_length (k := j) hj
      have cj := Own.cell (g := w.heap.size) (c := n) (j := j) (by have := HW.out; rw [hln]; exact this) (by rw [hln]; exact hlt)
      have fj := World.ownsRow.frozenAt (g := w.heap.size) (cap := n) (n := n) (by have := HW.out; unfold Own at this; rw [hln] at this; exact this) j
      have hset := Own.set (g := w.heap.size) (c := n) (m := j) hln.symm HW.out j
      rw [upTo_set hlt] at hset
      have HW2 := Lib.hid hset
      clear hln hset
      go_wp2_with fail
      go_roundw
      case rel => exact ⟨j + 1, by omega, by go_num, HW2.out.1, HG.out.setCell (p := ⟨w.heap.size, j, none⟩) (Nat.le_refl _) _⟩
      case measure => simp [intOf]; omega
    · have e : j = n := by omega
      subst e
      go_wp2
      go_ret
      exact ⟨_, rfl, by have := HW.out; rw [upTo_all] at this; exact this, HG.out⟩

set_option maxHeartbeats 1000000 in
theorem refFinest_any (n : Nat) (w : World) (hn : n ≤ 1000) :
    Calls Try.prog 38 #[.int .i64 n] w fun e w' => ∃ v, e = .returned v ∧ Own w' w.heap.size v (List.range n) ∧ Below w.heap.size w w' := by
  go_enter Try.func38, Try.ntmps38
  go_wp2_with fail
  go_loopw [3, 4] (fun v x wr => ∃ j : Nat, j ≤ n ∧ x = .int .i64 j ∧ Own wr w.heap.size v (List.range j) ∧ Below w.heap.size w wr) (fun _ x _ => n - (intOf x).toNat)
  case atStart => exact ⟨0, Nat.zero_le _, rfl, World.ownsRow_nil _ _ _ _, Below.refl _ _⟩
  case round =>
    obtain ⟨j, hj, rfl, hown, hbel⟩ := hrel
    obtain ⟨ao, cap, rfl⟩ := slice_of hown
    have HW := Lib.hid hown
    have HG := Lib.hid hbel
    have hsz := hbel.size
    clear hown hbel
    by_cases hlt : j < n
    · go_wp2_with (at_builtin; refine wpList_append_int rfl _ _ rfl w.heap.size _ (List.range j) rfl (World.ownsRow.alloc HW.out _) ⟨wr.heap.size, 0, none⟩ 1 j rfl ?qc1 ?qc2 ?qc3 ?_)
      case qc1 => simp
      case qc2 => rw [List.length_range]; omega
      case qc3 => simp; omega
      intro v' w1 hown1 hgr1 hb1
      rw [← List.range_succ] at hown1
      have HW1 := Lib.hid hown1
      have HB1 := Lib.hid hb1
      clear hown1 hb1 hgr1
      go_wp2_with fail
      go_roundw
      case rel => exact ⟨j + 1, by omega, by go_num, HW1.out, (HG.out.alloc (by omega) _).trans HB1.out⟩
      case measure => simp [intOf]; omega
    · have e : j = n := by omega
      subst e
      go_wp2
      go_ret
      exact ⟨_, rfl, HW.out, HG.out⟩

end Go.Proofs.Ytdflgcfjfgojkaa
