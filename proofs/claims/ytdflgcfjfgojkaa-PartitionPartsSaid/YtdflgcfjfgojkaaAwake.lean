/-
  The contract of the law's awake: the chapter's examples hold.
-/
import Derived.Test.YtdflgcfjfgojkaaMade
namespace Go.Proofs.Ytdflgcfjfgojkaa
open Go.RowKit

instance (p : List Nat) : Decidable (V p) := inferInstanceAs (Decidable (∀ i, i < p.length → at_ p i ≤ i ∧ at_ p (at_ p i) = at_ p i))

theorem ints_block {w : World} {g : Nat} {cs : Array Value} {us : List Nat} (h : w.heap[g]? = some (.cells cs 3 (0, 0))) (hc : cs.toList = cellsN us) : Ints w w.heap.size (some ⟨g, 0, none⟩) (toI us) := by
  refine .inr ⟨g, 0, rfl, (Array.getElem?_eq_some_iff.1 h).1, fun i x hx => ?_⟩
  rw [toI_get?, Option.map_eq_some_iff] at hx
  obtain ⟨n, hn, rfl⟩ := hx
  rw [cell_of_row w g _ cs 3 (0, 0) h, ← Array.getElem?_toList, hc, Nat.zero_add]
  simp [cellsN, hn]

theorem heap_one (w : World) (o : Obj) : (w.alloc o).heap[w.heap.size]? = some o := heap_alloc_new w o
theorem heap_two (w : World) (o o2 : Obj) : ((w.alloc o).alloc o2).heap[w.heap.size]? = some o := by
  exact (Below.heap_alloc (w.alloc o) o2 w.heap.size (by simp)).trans (heap_alloc_new w o)
theorem heap_two' (w : World) (o o2 : Obj) : ((w.alloc o).alloc o2).heap[w.heap.size + 1]? = some o2 := by
  have := heap_alloc_new (w.alloc o) o2
  simpa using this

theorem ex_gen (A : Option Addr) (c : Nat) (w : World) (h : Pairs w w.heap.size A [(0, 1), (3, 4), (1, 3)]) :
    Calls Try.prog 30 #[.int .i64 5, .slice A 3 c] w fun e w' => ∃ A' c', e = .returned (.tuple #[.slice A' 5 c', .int .i64 0]) ∧ Ints w' w'.heap.size A' (toI [0, 0, 2, 0, 0]) ∧ Below w.heap.size w w' := by
  have hr : inR 5 [(0, 1), (3, 4), (1, 3)] := by intro x hx; simp at hx; rcases hx with rfl | rfl | rfl <;> decide
  refine (gen_ok 5 [(0, 1), (3, 4), (1, 3)] A c w (by decide) (by decide) (by decide) hr h).mono ?_
  rintro e w' ⟨v, rfl, hown, hb⟩
  rw [show genS 5 [(0, 1), (3, 4), (1, 3)] = [0, 0, 2, 0, 0] by decide +kernel] at hown
  obtain ⟨A', c', rfl, hT⟩ := hown.ints
  exact ⟨A', c', rfl, hT, hb⟩

theorem ex_join (A A' : Option Addr) (c c' : Nat) (w : World) (h : Ints w w.heap.size A (toI [0, 0, 2, 3])) (h' : Ints w w.heap.size A' (toI [0, 1, 1, 3])) :
    Calls Try.prog 20 #[.slice A 4 c, .slice A' 4 c'] w fun e w' => ∃ A' c', e = .returned (.tuple #[.slice A' 4 c', .int .i64 0]) ∧ Ints w' w'.heap.size A' (toI [0, 0, 0, 3]) ∧ Below w.heap.size w w' := by
  refine (join_ok [0, 0, 2, 3] [0, 1, 1, 3] A A' c c' w (by decide) (by decide) rfl (by decide) h h').mono ?_
  rintro e w' ⟨v, rfl, hown, hb⟩
  rw [show joinS [0, 0, 2, 3] [0, 1, 1, 3] = [0, 0, 0, 3] by decide +kernel] at hown
  obtain ⟨A', c', rfl, hT⟩ := hown.ints
  exact ⟨A', c', rfl, hT, hb⟩

theorem ex_meet (A A' : Option Addr) (c c' : Nat) (w : World) (h : Ints w w.heap.size A (toI [0, 0, 2, 3])) (h' : Ints w w.heap.size A' (toI [0, 1, 1, 3])) :
    Calls Try.prog 22 #[.slice A 4 c, .slice A' 4 c'] w fun e w' => ∃ A' c', e = .returned (.tuple #[.slice A' 4 c', .int .i64 0]) ∧ Ints w' w'.heap.size A' (toI [0, 1, 2, 3]) ∧ Below w.heap.size w w' := by
  refine (meet_ok [0, 0, 2, 3] [0, 1, 1, 3] A A' c c' w (by decide) (by decide) rfl (by decide) h h').mono ?_
  rintro e w' ⟨v, rfl, hown, hb⟩
  rw [show meetS [0, 0, 2, 3] [0, 1, 1, 3] = [0, 1, 2, 3] by decide +kernel] at hown
  obtain ⟨A', c', rfl, hT⟩ := hown.ints
  exact ⟨A', c', rfl, hT, hb⟩

theorem ex_all (w : World) : Calls Try.prog 26 #[.int .i64 3] w fun e w' => ∃ A c, e = .returned (.tuple #[.slice A 5 c, .int .i64 0]) ∧ Below w.heap.size w w' := by
  refine (all_ok 3 w (by decide)).mono ?_
  rintro e w' ⟨v, rfl, hown, hb⟩
  obtain ⟨A, c, rfl⟩ := hown.slice
  rw [show (allS 3).length = 5 by decide +kernel]
  exact ⟨A, c, rfl, hb⟩

theorem equal_same (n : Nat) (xs : List Nat) (A A' : Option Addr) (c c' : Nat) (w : World) (hn : xs.length = n) (hx : n ≤ 1000000) (hA : Ints w w.heap.size A (toI xs)) (hB : Ints w w.heap.size A' (toI xs)) :
    Calls Try.prog 19 #[.slice A n c, .slice A' n c'] w fun e w' => e = .returned (.bool true) ∧ Below w.heap.size w w' := by
  subst hn
  refine (equal_nat xs xs A A' c c' w hx hA hB).mono ?_
  rintro e w' ⟨rfl, hb⟩
  exact ⟨ret_bool (decide_eq_true rfl), hb⟩

set_option maxHeartbeats 2000000 in
theorem awake_any (w : World) : Calls Try.prog 10 #[] w fun e w' => e = .returned (.bool true) ∧ Below w.heap.size w w' := by
  go_enter Try.func10, Try.ntmps10
  go_wp2_with fail
  refine (ex_gen _ _ _ ?h1).mono ?_
  case h1 => refine .inr ⟨w.heap.size, 0, rfl, by simp, fun i hi => ?_⟩; match i, hi with | 0, _ => simp | 1, _ => simp | 2, _ => simp
  rintro e w1 ⟨A1, c1, rfl, hT1, hb1⟩
  have HT1 := Lib.hid hT1
  have HB1 := Lib.hid (((Below.refl _ w).alloc (Nat.le_refl _) _).trans (hb1.mono (by simp)))
  clear hT1 hb1
  go_wp2_with fail
  refine (ex_join _ _ _ _ _ ?h2 ?h3).mono ?_
  case h2 => exact ints_block (heap_two _ _ _) rfl
  case h3 => exact ints_block (heap_two' _ _ _) rfl
  rintro e w2 ⟨A2, c2, rfl, hT2, hb2⟩
  have HT2 := Lib.hid hT2
  have HT1b := Lib.hid ((HT1.out.up ((Below.refl _ w1).alloc (Nat.le_refl _) _)).up (((Below.refl _ _).alloc (Nat.le_refl _) _).trans (hb2.mono (by simp))))
  have HB2 := Lib.hid (((HB1.out.alloc HB1.out.size _).alloc (by have := HB1.out.size; simp; omega) _).trans (hb2.mono (by have := HB1.out.size; simp; omega)))
  clear hT2 hb2 HB1 HT1
  go_wp2_with fail
  refine (ex_meet _ _ _ _ _ ?h2 ?h3).mono ?_
  case h2 => exact ints_block (heap_two _ _ _) rfl
  case h3 => exact ints_block (heap_two' _ _ _) rfl
  rintro e w3 ⟨A3, c3, rfl, hT3, hb3⟩
  have HT3 := Lib.hid hT3
  have HT2b := Lib.hid ((HT2.out.up ((Below.refl _ w2).alloc (Nat.le_refl _) _)).up (((Below.refl _ _).alloc (Nat.le_refl _) _).trans (hb3.mono (by simp))))
  have HT1c := Lib.hid ((HT1b.out.up ((Below.refl _ w2).alloc (Nat.le_refl _) _)).up (((Below.refl _ _).alloc (Nat.le_refl _) _).trans (hb3.mono (by simp))))
  have HB3 := Lib.hid (((HB2.out.alloc HB2.out.size _).alloc (by have := HB2.out.size; simp; omega) _).trans (hb3.mono (by have := HB2.out.size; simp; omega)))
  clear hT3 hb3 HB2 HT1b HT2
  go_wp2_with fail
  refine (ex_all _).mono ?_
  rintro e w4 ⟨A4, c4, rfl, hb4⟩
  have HT3d := Lib.hid (HT3.out.up hb4)
  have HT2d := Lib.hid (HT2b.out.up hb4)
  have HT1d := Lib.hid (HT1c.out.up hb4)
  have HB4 := Lib.hid (HB3.out.trans (hb4.mono HB3.out.size))
  clear hb4 HT3 HT2b HT1c HB3
  go_wp2_with fail
  refine (equal_same 5 [0, 0, 2, 0, 0] _ _ _ _ _ rfl (by decide) (HT1d.out.up ((Below.refl _ w4).alloc (Nat.le_refl _) _)) (ints_block (heap_one _ _) rfl)).mono ?_
  rintro e w5 ⟨rfl, hb5⟩
  have HT3e := Lib.hid ((HT3d.out.up ((Below.refl _ w4).alloc (Nat.le_refl _) _)).up hb5)
  have HT2e := Lib.hid ((HT2d.out.up ((Below.refl _ w4).alloc (Nat.le_refl _) _)).up hb5)
  have HB5 := Lib.hid ((HB4.out.alloc HB4.out.size _).trans (hb5.mono (by have := HB4.out.size; simp; omega)))
  clear hb5 HT3d HT2d HT1d HB4
  go_wp2_with fail
  refine (equal_same 4 [0, 0, 0, 3] _ _ _ _ _ rfl (by decide) (HT2e.out.up ((Below.refl _ w5).alloc (Nat.le_refl _) _)) (ints_block (heap_one _ _) rfl)).mono ?_
  rintro e w6 ⟨rfl, hb6⟩
  have HT3f := Lib.hid ((HT3e.out.up ((Below.refl _ w5).alloc (Nat.le_refl _) _)).up hb6)
  have HB6 := Lib.hid ((HB5.out.alloc HB5.out.size _).trans (hb6.mono (by have := HB5.out.size; simp; omega)))
  clear hb6 HT3e HT2e HB5
  go_wp2_with fail
  refine (equal_same 4 [0, 1, 2, 3] _ _ _ _ _ rfl (by decide) (HT3f.out.up ((Below.refl _ w6).alloc (Nat.le_refl _) _)) (ints_block (heap_one _ _) rfl)).mono ?_
  rintro e w7 ⟨rfl, hb7⟩
  go_wp2_with fail
  go_ret
  exact ⟨rfl, (HB6.out.alloc HB6.out.size _).trans (hb7.mono (by have := HB6.out.size; simp; omega))⟩

end Go.Proofs.Ytdflgcfjfgojkaa
