/-
  Contracts of merge, finest (program), Merge, Finest (reference), slices.Clone, slices.Equal at ints.
-/
import Derived.Test.YtdflgcfjfgojkaaRefValid
namespace Go.Proofs.Ytdflgcfjfgojkaa
open Go.RowKit

theorem grown_trans {a b c : World} {r : Option Nat} (h : a.grownBy b r) (k : b.grownBy c r) : a.grownBy c r :=
  ⟨k.os.trans h.os, k.tape.trans h.tape, k.output.trans h.output, Nat.le_trans h.size k.size, fun i hi hr => (k.block i (Nat.lt_of_lt_of_le hi h.size) hr).trans (h.block i hi hr)⟩
theorem grown_refl (a : World) (r : Option Nat) : a.grownBy a r := ⟨rfl, rfl, rfl, Nat.le_refl _, fun _ _ _ => rfl⟩
theorem grown_draws (a : World) (n : Nat) (r : Option Nat) : a.grownBy (a.drewN n) r := ⟨rfl, rfl, rfl, Nat.le_refl _, fun _ _ _ => rfl⟩
theorem grown_below {w w' : World} {g base : Nat} (h : w.grownBy w' (some g)) (hg : base ≤ g) (hb : base ≤ w.heap.size) : Below base w w' :=
  (Below.refl base w).grown h hb (by intro k hk; cases hk; exact hg)

/-- f applied to the first j -/
def mapTo (f : Nat → Nat) (j : Nat) (ys : List Nat) : List Nat := (ys.take j).map f ++ ys.drop j
theorem mapTo_zero (f : Nat → Nat) (ys : List Nat) : mapTo f 0 ys = ys := by simp [mapTo]
theorem mapTo_all (f : Nat → Nat) (ys : List Nat) {j : Nat} (h : ys.length ≤ j) : mapTo f j ys = ys.map f := by
  unfold mapTo
  rw [List.take_of_length_le h, List.drop_eq_nil_of_le h, List.append_nil]
theorem mapTo_length (f : Nat → Nat) (j : Nat) (ys : List Nat) : (mapTo f j ys).length = ys.length := by simp [mapTo]; omega
theorem mapTo_at (f : Nat → Nat) {j : Nat} {ys : List Nat} : at_ (mapTo f j ys) j = at_ ys j := by
  unfold mapTo at_
  rcases Nat.lt_or_ge j ys.length with h | h
  · simp [List.getD, List.getElem?_append, Nat.min_eq_left (Nat.le_of_lt h)]
  · have : ((ys.take j).map f ++ ys.drop j).length ≤ j := by simp; omega
    rw [List.getD_eq_getElem?_getD, List.getD_eq_getElem?_getD, List.getElem?_eq_none this, List.getElem?_eq_none h]
theorem mapTo_set (f : Nat → Nat) {j : Nat} {ys : List Nat} (h : j < ys.length) : (mapTo f j ys).set j (f (at_ ys j)) = mapTo f (j + 1) ys := by
  unfold mapTo
  rw [List.take_succ_eq_append_getElem h, List.map_append, List.set_append_right _ _ (by simp; omega)]
  have e : j - ((ys.take j).map f).length = 0 := by simp; omega
  rw [e, List.drop_eq_getElem_cons h, List.set_cons_zero]
  simp [at_, h]
theorem mapTo_keep (f : Nat → Nat) {j : Nat} {ys : List Nat} (h : j < ys.length) (hf : f (at_ ys j) = at_ ys j) : mapTo f (j + 1) ys = mapTo f j ys := by
  rw [← mapTo_set f h, hf]
  apply List.ext_getElem (by simp)
  intro i h1 h2
  rw [List.getElem_set]
  split
  · subst i
    have := mapTo_at f (j := j) (ys := ys)
    simp only [at_, List.getD, List.getElem?_eq_getElem h2] at this
    simp only [at_, List.getD]
    simpa using this.symm
  · rfl

theorem Own.cell {w : World} {base g c : Nat} {ys : List Nat} (h : Own w base (.slice (some ⟨g, 0, none⟩) ys.length c) ys) {j : Nat} (hj : j < ys.length) : w.cell? ⟨g, j, none⟩ = some (.int .i64 (at_ ys j : Nat)) := by
  rw [World.ownsRow.cellAt h j (by omega), cellsN_get hj]
theorem Own.set {w : World} {base g c n : Nat} {ys : List Nat} (hn : n = ys.length) (h : Own w base (.slice (some ⟨g, 0, none⟩) n c) ys) (j m : Nat) :
    Own (w.setCell ⟨g, j, none⟩ (.int .i64 (m : Int))) base (.slice (some ⟨g, 0, none⟩) n c) (ys.set j m) ∧ w.grownBy (w.setCell ⟨g, j, none⟩ (.int .i64 (m : Int))) (some g) := by
  subst hn
  have := World.ownsRow.stored h j (.int .i64 (m : Int))
  rw [cellsN_set] at this
  refine ⟨?_, this.2⟩
  have e : (ys.set j m).length = ys.length := by simp
  unfold Own
  rw [e]
  exact this.1
theorem Own.grown {w w' : World} {base g : Nat} {v : Value} {ys : List Nat} (h : Own w base v ys) (hg : w.grownBy w' (some g)) (hne : v.ownBlock ≠ some g) : Own w' base v ys := World.ownsRow.kept h hg (.inr hne)

def toLow (lo hi : Nat) (x : Nat) : Nat := if x = hi then lo else x
theorem mergeS_lt {ys : List Nat} {i k : Nat} (h : at_ ys i < at_ ys k) : mergeS ys i k = ys.map (toLow (at_ ys i) (at_ ys k)) := by
  unfold mergeS toLow
  rw [Nat.max_eq_right (Nat.le_of_lt h), Nat.min_eq_left (Nat.le_of_lt h)]
theorem mergeS_gt {ys : List Nat} {i k : Nat} (h : at_ ys k < at_ ys i) : mergeS ys i k = ys.map (toLow (at_ ys k) (at_ ys i)) := by
  unfold mergeS toLow
  rw [Nat.max_eq_left (Nat.le_of_lt h), Nat.min_eq_right (Nat.le_of_lt h)]
theorem mergeS_eq {ys : List Nat} {i k : Nat} (h : at_ ys i = at_ ys k) : mergeS ys i k = ys := by
  unfold mergeS
  rw [h, Nat.max_self, Nat.min_self]
  have : (fun x => if x = at_ ys k then at_ ys k else x) = id := by
    funext x
    show (if x = at_ ys k then at_ ys k else x) = x
    split
    · rename_i e; exact e.symm
    · rfl
  rw [this, List.map_id]

set_option maxHeartbeats 2000000 in
theorem merge_any (ys : List Nat) (g c base i k : Nat) (w : World) (hi : i < ys.length) (hk : k < ys.length) (hl : ys.length ≤ 1000000)
    (hown : Own w base (.slice (some ⟨g, 0, none⟩) ys.length c) ys) :
    Calls Try.prog 36 #[.slice (some ⟨g, 0, none⟩) ys.length c, .int .i64 i, .int .i64 k] w fun e w' =>
      e = .returned (.tuple #[]) ∧ Own w' base (.slice (some ⟨g, 0, none⟩) ys.length c) (mergeS ys i k) ∧ w.grownBy w' (some g) := by
  have ci := hown.cell hi
  have ck := hown.cell hk
  have HO := Lib.hid hown
  have hi0 : (0 : Int) ≤ (i : Int) := by omega
  have hi1 : (i : Int) < (ys.length : Int) := by omega
  have hi2 : ((i : Int)).toNat = i := by omega
  have hk0 : (0 : Int) ≤ (k : Int) := by omega
  have hk1 : (k : Int) < (ys.length : Int) := by omega
  have hk2 : ((k : Int)).toNat = k := by omega
  clear hown
  rcases Nat.lt_trichotomy (at_ ys i) (at_ ys k) with h | h | h
  case inr.inl =>
    have H := Lib.hid (mergeS_eq h)
    rw [h] at ci
    generalize at_ ys k = x at ci ck
    clear h
    have t1 : ((x : Int) == (x : Int)) = true := by simp
    go_enter Try.func36, Try.ntmps36
    go_wp2_with fail
    go_quiet (fail)
    go_wp2_with fail
    refine bodyPost_ret (v := .tuple #[]) (results_none rfl _ _ _) rfl ?_
    exact ⟨rfl, by rw [H.out]; exact HO.out, grown_draws _ _ _⟩
  case' inl =>
    have H := Lib.hid (mergeS_lt h)
    generalize at_ ys i = lo at H ci h
    generalize at_ ys k = hi at H ck h
  case' inr.inr =>
    have H := Lib.hid (mergeS_gt h)
    generalize at_ ys k = lo at H ck h
    generalize at_ ys i = hi at H ci h
  all_goals
    have t1 : ((lo : Int) == (hi : Int)) = false := by simp; omega
    have t2 : ((hi : Int) == (lo : Int)) = false := by simp; omega
    go_enter Try.func36, Try.ntmps36
    go_wp2_with fail
    go_quiet (fail)
    go_wp2_with fail
    go_loopw [32] (fun x wr => ∃ j : Nat, j ≤ ys.length ∧ x = .int .i64 j ∧ Own wr base (.slice (some ⟨g, 0, none⟩) ys.length c) (mapTo (toLow lo hi) j ys) ∧ w.grownBy wr (some g)) (fun x _ => ys.length - (intOf x).toNat)
    case atStart => exact ⟨0, Nat.zero_le _, rfl, by rw [mapTo_zero]; exact HO.out, grown_draws _ _ _⟩
    case round =>
      obtain ⟨j, hj, rfl, hown, hgr⟩ := hrel
      have HW := Lib.hid hown
      have HG := Lib.hid hgr
      clear hown hgr ci ck
      by_cases hlt : j < ys.length
      · have hln := mapTo_length (toLow lo hi) j ys
        have cj := Own.cell (g := g) (c := c) (j := j) (by have := HW.out; rw [hln]; exact this) (by rw [hln]; exact hlt)
        have fj := World.ownsRow.frozenAt (g := g) (cap := c) (n := ys.length) (by have := HW.out; unfold Own at this; rw [hln] at this; exact this) j
        rw [mapTo_at] at cj
        have HS := Lib.hid (mapTo_set (toLow lo hi) hlt)
        have HKp := Lib.hid (mapTo_keep (toLow lo hi) hlt)
        have HLN := Lib.hid hln
        clear hln
        generalize at_ ys j = x at cj HS HKp
        by_cases hx : x = hi
        · subst hx
          have t3 : ((x : Int) == (x : Int)) = true := by simp
          have hs := HS.out
          rw [show toLow lo x x = lo by unfold toLow; rw [if_pos rfl]] at hs
          have hset := Own.set (g := g) (c := c) (m := lo) HLN.out.symm HW.out j
          rw [hs] at hset
          have HW2 := Lib.hid hset
          clear hs hset
          go_wp2_with fail
          go_roundw
          case rel => exact ⟨j + 1, by omega, by go_num, HW2.out.1, grown_trans HG.out HW2.out.2⟩
          case measure => simp [intOf]; omega
        · have t3 : ((x : Int) == (hi : Int)) = false := by simp; omega
          have HK2 := Lib.hid (HKp.out (by unfold toLow; rw [if_neg hx]))
          clear hx
          go_wp2_with fail
          go_roundw
          case rel => exact ⟨j + 1, by omega, by go_num, by rw [HK2.out]; exact HW.out, HG.out⟩
          case measure => simp [intOf]; omega
      · have H2 := Lib.hid (mapTo_all (toLow lo hi) ys (j := j) (by omega))
        go_wp2
        go_end0
        exact ⟨rfl, by have := HW.out; rw [H2.out] at this; rw [H.out]; exact this, HG.out⟩

end Go.Proofs.Ytdflgcfjfgojkaa
