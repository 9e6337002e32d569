import Derived.Test.YthnhacncnhknnaaGreatDoorZ03
import Derived.Test.YthnhacncnhknnaaGreatDoorZ02
import Derived.Test.YthnhacncnhknnaaGreatDoorZ01
import Derived.Lib.TrailingZeros
import Derived.Test.YthnhacncnhknnaaGreatDoorProg
import Derived.WalkKit
import Derived.WalkSpells
import Derived.Lib.Hide
import Derived.Shelf.Spec.TrailingZeros
import Derived.IntWalk
import Derived.OwnWalkIn
import Derived.Laws.StructEq
import Derived.Deep.MidRow
import Derived.Laws.Rows
import Derived.Deep.DeepCutAuto
import Derived.ArgAppend
import Derived.LoopTactic
import Derived.Deep.RegionHeld3
import Derived.Great.BuildSlice
/-
  Parts of graphs, the reference's small functions: has, ascending, marked, index, into, merged, bits, compare.
-/
namespace Go.Proofs.YthnhacncnhknnaaGreatDoor
open Go.RowKit

/-! slices of bools -/
def EBo : El Bool := ⟨fun b => [.bool b], 1, fun _ => rfl, fun x u hu => by simp at hu; subst hu; rfl⟩
theorem infoBo : (Tryz.prog.info? 4).map (fun i => (i.zero, i.size, i.bytes)) = some (some (.bool false), 1, 1) := by kernel_rfl
abbrev Bos (w : World) (B : Nat) (A : Option Addr) (xs : List Bool) : Prop := Reads EBo w B A xs
abbrev OwnB (w : World) (base : Nat) (v : Value) (xs : List Bool) : Prop := OwnE EBo 4 w base v xs
theorem Bos.cells {w : World} {B : Nat} {A : Option Addr} {xs : List Bool} (h : Bos w B A xs) {k : Nat} (hk : k < xs.length) :
    ∃ b off, A = some ⟨b, off, none⟩ ∧ b < B ∧ ∀ i, i < xs.length → w.cell? ⟨b, off + i, none⟩ = some (.bool (xs.getD i false)) := by
  obtain ⟨b, off, h1, h2, h3⟩ := Reads.at h hk
  refine ⟨b, off, h1, h2, fun i hi => ?_⟩
  have := h3 i hi 0 (.bool xs[i]) rfl
  have e : EBo.size = 1 := rfl
  rw [e, Nat.mul_one, Nat.add_zero] at this
  rw [this]
  simp [List.getD, hi]
theorem cellsE_bo (xs : List Bool) : cellsE EBo xs = xs.map Value.bool := by
  induction xs with
  | nil => rfl
  | cons x r ih =>
    have : cellsE EBo (x :: r) = .bool x :: cellsE EBo r := rfl
    rw [this, ih]; rfl
theorem OwnB.free {w : World} {base g c n : Nat} {xs : List Bool} (hn : n = xs.length) (h : OwnB w base (.slice (some ⟨g, 0, none⟩) n c) xs) (j : Nat) : w.frozen? ⟨g, j, none⟩ = false := by
  subst hn
  exact World.ownsRow.frozenAt h j
theorem OwnB.set {w : World} {base g c n : Nat} {xs : List Bool} (hn : n = xs.length) (h : OwnB w base (.slice (some ⟨g, 0, none⟩) n c) xs) (j : Nat) (m : Bool) :
    OwnB (w.setCell ⟨g, j, none⟩ (.bool m)) base (.slice (some ⟨g, 0, none⟩) n c) (xs.set j m) ∧ w.grownBy (w.setCell ⟨g, j, none⟩ (.bool m)) (some g) := by
  subst hn
  have := World.ownsRow.stored h j (.bool m)
  refine ⟨?_, this.2⟩
  have e : (xs.set j m).length = xs.length := by simp
  unfold OwnB OwnE
  rw [e, cellsE_bo, List.map_set, ← cellsE_bo]
  exact this.1

set_option maxRecDepth 100000 in
set_option maxHeartbeats 2000000 in
theorem asc7_any (l : List Int) (n : Nat) (A : Option Addr) (B c : Nat) (w : World) (hl : l.length ≤ maxLen) (hA : Ints w B A l) :
    Calls Tryz.prog 57 #[.slice A l.length c, .int .i64 (n : Int)] w fun e w' => e = .returned (.int .i64 (ascE l n)) ∧ ∃ q, w' = w.drewN q := by
  unfold maxLen at hl
  have HT := Lib.hid hA
  have HID : Hid (∀ x, idxB x n = (decide (0 ≤ x) && decide (x < (n : Int)))) := Lib.hid fun x => rfl
  have H6 := Lib.hid (fun k h => asc_six (l := l) (n := n) (k := k) h)
  have H12 := Lib.hid (fun k h h2 h3 => asc_twelve (l := l) (n := n) (k := k) h h2 h3)
  have HP := Lib.hid (fun k h h2 => asc_pass (l := l) (n := n) (k := k) h h2)
  have HHIT := Lib.hid (fun k (h : k < l.length) hf => fstN_hit (f := ascAt l n) h hf)
  have HPASS := Lib.hid (fun k (h : k < l.length) hf => fstN_pass (f := ascAt l n) h hf)
  have HEND := Lib.hid (fun k (h : l.length ≤ k) => fstN_end (f := ascAt l n) h)
  have HX : Hid (ascE l n = fstN (ascAt l n) 0 (l.length - 0)) := Lib.hid rfl
  clear hA
  generalize ascE l n = R at HX ⊢
  generalize ascAt l n = f at *
  go_enter Tryz.func57, Tryz.ntmps57
  go_wp2_with fail
  go_loopw [5] (fun i wr => ∃ k q : Nat, k ≤ l.length ∧ i = .int .i64 k ∧ R = fstN f k (l.length - k) ∧ wr = w.drewN q) (fun i _ => l.length - (intOf i).toNat)
  case atStart => exact ⟨0, 0, Nat.zero_le _, rfl, HX.out, rfl⟩
  case round =>
    clear HX
    obtain ⟨k, q, hk, rfl, hr, rfl⟩ := hrel
    have HR := Lib.hid hr
    clear hr
    by_cases hlt : k < l.length
    · obtain ⟨b, off, rfl, hb, hc⟩ := Ints.cells HT.out hlt
      have ck := hc k hlt
      by_cases h1 : idxB (l.getD k 0) n = true
      case neg =>
        have h1' : idxB (l.getD k 0) n = false := by simpa using h1
        have h6 := H6.out k h1'
        have HE := Lib.hid (show R = 6 by rw [HR.out, HHIT.out k hlt (by omega), h6])
        have hx := idxB_not.1 h1'
        clear hc h6 h1 h1'
        generalize l.getD k 0 = x at *
        by_cases hx0 : x < 0
        · clear hx
          go_wp2_with fail
          go_ret
          exact ⟨ret_int (by rw [HE.out]; rfl), _, rfl⟩
        · have hx1 : (n : Int) ≤ x := by omega
          clear hx
          go_wp2_with fail
          go_ret
          exact ⟨ret_int (by rw [HE.out]; rfl), _, rfl⟩
      obtain ⟨g0, g1⟩ := idxB_iff.1 h1
      by_cases h0 : 0 < k
      · have ck1 := hc (k - 1) (by omega)
        have q0 : (0 : Int) ≤ (k : Int) - 1 := by omega
        have q1 : (k : Int) - 1 < (l.length : Int) := by omega
        have q2 : ((k : Int) - 1).toNat = k - 1 := by omega
        have q3 : decide (0 < (k : Int)) = true := decide_eq_true (by omega)
        have q4 : decide (0 < k) = true := decide_eq_true (by omega)
        have i0 : (0 : Int) ≤ (k : Int) := by omega
        have i1 : (k : Int) < (l.length : Int) := by omega
        have i2 : ((k : Int)).toNat = k := by omega
        have e1 : IntKind.i64.wrap ((k : Int) - 1) = (k : Int) - 1 := IntWalk.i64_in _ (by omega)
        clear hc
        by_cases h2 : l.getD k 0 ≤ l.getD (k - 1) 0
        · have h6 := H12.out k h1 h0 h2
          have HE := Lib.hid (show R = 12 by rw [HR.out, HHIT.out k hlt (by omega), h6])
          clear h6 h1
          generalize l.getD k 0 = x at *
          generalize l.getD (k - 1) 0 = y at *
          have t1 : decide (x ≤ y) = true := decide_eq_true h2
          clear h2
          go_wp2_with fail
          go_quiet (fail)
          go_wp2_with fail
          go_ret
          exact ⟨ret_int (by rw [HE.out]; rfl), _, (by first | rfl | exact World.drewN_drewN _ _ _)⟩
        · have h6 := HP.out k h1 (fun h => h2 h.2)
          have HE := Lib.hid (show R = fstN f (k + 1) (l.length - (k + 1)) by rw [HR.out, HPASS.out k hlt h6])
          clear h6 h1
          generalize l.getD k 0 = x at *
          generalize l.getD (k - 1) 0 = y at *
          have t1 : decide (x ≤ y) = false := decide_eq_false h2
          clear h2
          go_wp2_with fail
          go_quiet (fail)
          clear e1
          go_wp2_with fail
          go_roundw
          case rel => exact ⟨k + 1, _, by omega, by go_num, HE.out, rfl⟩
          case measure => simp [intOf]; omega
      · have h6 := HP.out k h1 (fun h => h0 h.1)
        have HE := Lib.hid (show R = fstN f (k + 1) (l.length - (k + 1)) by rw [HR.out, HPASS.out k hlt h6])
        clear h6 h1 hc
        generalize l.getD k 0 = x at *
        have q3 : decide (0 < (k : Int)) = false := decide_eq_false (by omega)
        have q4 : decide (0 < k) = false := decide_eq_false h0
        clear h0
        go_wp2_with fail
        go_quiet (fail)
        go_wp2_with fail
        go_roundw
        case rel => exact ⟨k + 1, _, by omega, by go_num, HE.out, rfl⟩
        case measure => simp [intOf]; omega
    · have HE := Lib.hid (show R = 0 by rw [HR.out, HEND.out k (by omega)])
      go_wp2_with fail
      go_ret
      exact ⟨ret_int (by rw [HE.out]; rfl), _, rfl⟩

set_option maxHeartbeats 1000000 in
theorem has7_any (l : List Int) (x : Int) (A : Option Addr) (B c : Nat) (w : World) (hl : l.length ≤ maxLen) (hA : Ints w B A l) :
    Calls Tryz.prog 31 #[.slice A l.length c, .int .i64 x] w fun e w' => e = .returned (.bool (decide (x ∈ l))) ∧ w' = w := by
  unfold maxLen at hl
  have HA := Lib.hid hA
  have HY : Hid (∀ k, k < l.length → l.getD k 0 = x → decide (x ∈ l) = true) := Lib.hid fun k hk e => decide_eq_true (by rw [← e]; exact getD_mem hk)
  have HN : Hid ((∀ k, k < l.length → l.getD k 0 ≠ x) → decide (x ∈ l) = false) := Lib.hid fun h => decide_eq_false fun m => by
    obtain ⟨i, hi, e⟩ := List.mem_iff_getElem.1 m
    exact h i hi (by rw [List.getD_eq_getElem?_getD, List.getElem?_eq_getElem hi]; exact e)
  clear hA
  generalize decide (x ∈ l) = R at *
  go_enter Tryz.func31, Tryz.ntmps31
  go_wp2_with fail
  go_loop [5] (fun v => ∃ k : Nat, k ≤ l.length ∧ v = .int .i64 (k : Int) ∧ ∀ j, j < k → l.getD j 0 ≠ x) (fun v => l.length - (intOf v).toNat)
  case atStart => exact ⟨0, Nat.zero_le _, rfl, fun j h => by omega⟩
  case round =>
    obtain ⟨k, hk, rfl, hs⟩ := hrel
    have HS := Lib.hid hs
    clear hs
    by_cases hlt : k < l.length
    · obtain ⟨b, off, rfl, hb, hc⟩ := Ints.cells HA.out hlt
      have ck := hc k hlt
      have hk0 : (0 : Int) ≤ (k : Int) := by omega
      have hk1 : (k : Int) < (l.length : Int) := by omega
      have hk2 : ((k : Int)).toNat = k := by omega
      clear hc
      by_cases he : l.getD k 0 = x
      · have HR := Lib.hid (HY.out k hlt he)
        rw [he] at ck
        clear he
        have t2 : (x == x) = true := by simp
        go_wp2_with fail
        go_ret
        exact ⟨ret_bool (by rw [HR.out]), rfl⟩
      · have HS2 : Hid (∀ j, j < k + 1 → l.getD j 0 ≠ x) := Lib.hid fun j hj => by
          by_cases e : j = k
          · subst e; exact he
          · exact HS.out j (by omega)
        generalize l.getD k 0 = y at *
        have t2 : (y == x) = false := ne_beq he
        clear he
        go_wp2_with fail
        go_round
        case rel => exact ⟨k + 1, by omega, by go_num, HS2.out⟩
        case measure => simp [intOf]; omega
    · have HR := Lib.hid (HN.out fun j hj => HS.out j (by omega))
      go_wp2_with fail
      go_ret
      exact ⟨ret_bool (by rw [HR.out]), rfl⟩

theorem idx_some {l : List Int} {x : Int} {k : Nat} (h : ∀ j, j < k → l.getD j 0 ≠ x) (hk : k < l.length) (e : l.getD k 0 = x) : idxOf l x l.length = (k : Int) := by
  have h1 : idxOf l x (k + 1) = (k : Int) := by
    simp only [idxOf]
    rw [idx_not h, if_neg (by simp), if_pos e]
  obtain ⟨d, hd⟩ : ∃ d, l.length = k + 1 + d := ⟨l.length - (k + 1), by omega⟩
  rw [hd]
  clear hd
  induction d with
  | zero => exact h1
  | succ d ih =>
    rw [← Nat.add_assoc]
    simp only [idxOf]
    rw [ih, if_pos (by omega)]
set_option maxHeartbeats 1000000 in
theorem index7_any (l : List Int) (x : Int) (A : Option Addr) (B c : Nat) (w : World) (hl : l.length ≤ maxLen) (hA : Ints w B A l) :
    Calls Tryz.prog 28 #[.slice A l.length c, .int .i64 x] w fun e w' => e = .returned (.int .i64 (idxOf l x l.length)) ∧ w' = w := by
  unfold maxLen at hl
  have HA := Lib.hid hA
  have HY : Hid (∀ k, (∀ j, j < k → l.getD j 0 ≠ x) → k < l.length → l.getD k 0 = x → idxOf l x l.length = (k : Int)) := Lib.hid fun k h hk e => idx_some h hk e
  have HN : Hid ((∀ k, k < l.length → l.getD k 0 ≠ x) → idxOf l x l.length = -1) := Lib.hid fun h => idx_not h
  clear hA
  generalize idxOf l x l.length = R at *
  go_enter Tryz.func28, Tryz.ntmps28
  go_wp2_with fail
  go_loop [5] (fun v => ∃ k : Nat, k ≤ l.length ∧ v = .int .i64 (k : Int) ∧ ∀ j, j < k → l.getD j 0 ≠ x) (fun v => l.length - (intOf v).toNat)
  case atStart => exact ⟨0, Nat.zero_le _, rfl, fun j h => by omega⟩
  case round =>
    obtain ⟨k, hk, rfl, hs⟩ := hrel
    have HS := Lib.hid hs
    clear hs
    by_cases hlt : k < l.length
    · obtain ⟨b, off, rfl, hb, hc⟩ := Ints.cells HA.out hlt
      have ck := hc k hlt
      have hk0 : (0 : Int) ≤ (k : Int) := by omega
      have hk1 : (k : Int) < (l.length : Int) := by omega
      have hk2 : ((k : Int)).toNat = k := by omega
      clear hc
      by_cases he : l.getD k 0 = x
      · have HR := Lib.hid (HY.out k HS.out hlt he)
        rw [he] at ck
        clear he
        have t2 : (x == x) = true := by simp
        go_wp2_with fail
        go_ret
        exact ⟨ret_int (by rw [HR.out]), rfl⟩
      · have HS2 : Hid (∀ j, j < k + 1 → l.getD j 0 ≠ x) := Lib.hid fun j hj => by
          by_cases e : j = k
          · subst e; exact he
          · exact HS.out j (by omega)
        generalize l.getD k 0 = y at *
        have t2 : (y == x) = false := ne_beq he
        clear he
        go_wp2_with fail
        go_round
        case rel => exact ⟨k + 1, by omega, by go_num, HS2.out⟩
        case measure => simp [intOf]; omega
    · have HR := Lib.hid (HN.out fun j hj => HS.out j (by omega))
      go_wp2_with fail
      go_ret
      exact ⟨ret_int (by rw [HR.out]), rfl⟩

theorem sel_yes {f : Nat → Bool} {k : Nat} (h : f k = true) : sel f (k + 1) = sel f k ++ [(k : Int)] := by rw [sel_succ, if_pos h]
theorem sel_no {f : Nat → Bool} {k : Nat} (h : f k = false) : sel f (k + 1) = sel f k := by rw [sel_succ, if_neg (by simp [h]), List.append_nil]
set_option maxHeartbeats 1000000 in
theorem marked_any (l : List Bool) (A : Option Addr) (c : Nat) (w : World) (hl : l.length ≤ 1000) (hA : Bos w w.heap.size A l) :
    Calls Tryz.prog 33 #[.slice A l.length c] w fun e w' => ∃ v, e = .returned v ∧ OwnI w' w.heap.size v (sel (fun i => l.getD i false) l.length) ∧ Below w.heap.size w w' := by
  have HA := Lib.hid hA
  clear hA
  have HY := Lib.hid (fun k (h : (fun i => l.getD i false) k = true) => sel_yes (f := (fun i => l.getD i false)) h)
  have HN := Lib.hid (fun k (h : (fun i => l.getD i false) k = false) => sel_no (f := (fun i => l.getD i false)) h)
  have HLE := Lib.hid (fun k => sel_le (fun i => l.getD i false) k)
  have H0 : Hid (sel (fun i => l.getD i false) 0 = []) := Lib.hid rfl
  generalize sel (fun i => l.getD i false) = P at *
  go_enter Tryz.func33, Tryz.ntmps33
  go_wp2_with fail
  go_loopw [3, 4] (fun v x wr => ∃ k : Nat, k ≤ l.length ∧ x = .int .i64 (k : Int) ∧ OwnI wr w.heap.size v (P k) ∧ Below w.heap.size w wr) (fun _ x _ => l.length - (intOf x).toNat)
  case atStart => exact ⟨0, Nat.zero_le _, rfl, by rw [H0.out]; exact OwnE.nil _ _ _, Below.refl _ _⟩
  case round =>
    obtain ⟨k, hk, rfl, hown, hbel⟩ := hrel
    have HG := Lib.hid hbel
    have hsz := hbel.size
    have e9 := HLE.out k
    obtain ⟨ao, cap, rfl⟩ := OwnE.slice hown
    have HW := Lib.hid hown
    by_cases hlt : k < l.length
    · have hk0 : (0 : Int) ≤ (k : Int) := by omega
      have hk1 : (k : Int) < ((l.length : Nat) : Int) := by omega
      have hk2 : ((k : Int)).toNat = k := by omega
      have HM : Hid (l.length - ((k : Int) + 1).toNat < l.length - ((k : Int)).toNat) := Lib.hid (by omega)
      have HLT := Lib.hid hlt
      obtain ⟨b, off, rfl, hb, hc⟩ := Bos.cells (HA.out.below hbel) hlt
      have ck := hc k hlt
      clear hc hown hbel
      cases hz : l.getD k false
      case false =>
        have HN2 := Lib.hid (HN.out k hz)
        rw [hz] at ck
        clear hz
        go_wp2_with fail
        go_roundw
        case rel => exact ⟨k + 1, HLT.out, by go_num, by rw [HN2.out]; exact HW.out, HG.out⟩
        case measure => exact HM.out
      case true =>
        have HY2 := Lib.hid (HY.out k hz)
        rw [hz] at ck
        clear hz
        go_wp2_with (at_builtin; refine wpList_append_int (w := wr.alloc _) rfl _ _ rfl w.heap.size _ (P k) rfl ?y1 wr.heap.size 1 (k : Int) rfl ?y2 ?y3 ?y4 ?_)
        case y1 => exact HW.out.alloc _
        case y2 => exact cell_new _ _ _
        case y3 => omega
        case y4 => simp; omega
        intro v2 w2 hown2 _ hb2
        have HW2 := Lib.hid (OwnE.cast HY2.out.symm hown2)
        have HB2 := Lib.hid ((HG.out.alloc hsz _).trans hb2)
        clear hown2 hb2
        go_wp2_with fail
        go_roundw
        case rel => exact ⟨k + 1, HLT.out, by go_num, HW2.out, HB2.out⟩
        case measure => exact HM.out
    · have e : k = l.length := by omega
      subst e
      clear hown hbel
      go_wp2_with fail
      go_ret
      exact ⟨_, rfl, HW.out, HG.out⟩
end Go.Proofs.YthnhacncnhknnaaGreatDoor

/-
  The program's sets: has, intersect, missing, mappedInto. Printed by mkg1.py.
-/
namespace Go.Proofs.YthnhacncnhknnaaGreatDoor
open Go.RowKit Go.Shelf

theorem hasG_any (l : List Int) (x : Nat) (A : Option Addr) (B c : Nat) (w : World) (hl : l.length ≤ 1000000) (hA : Ints w B A l) (hs : Asc l) :
    Calls Tryz.prog 36 #[.slice A l.length c, .int .i64 (x : Int)] w fun e w' => e = .returned (.bool (decide ((x : Int) ∈ l))) ∧ Below w.heap.size w w' := by
  have HB := Lib.hid (bin_any l x A B c w hl hA hs)
  clear hA hs
  generalize decide ((x : Int) ∈ l) = R at *
  go_enter Tryz.func36, Tryz.ntmps36
  go_wp2_with fail
  refine HB.out.mono ?_
  rintro e w' ⟨rfl, q, rfl⟩
  go_wp2_with fail
  go_ret
  exact ⟨rfl, below_draws (Below.refl _ _) q⟩

theorem andF_yes {a b : List Int} {k : Nat} (h : decide (a.getD k 0 ∈ b) = true) : andF a b (k + 1) = andF a b k ++ [a.getD k 0] := by
  show andF a b k ++ (if a.getD k 0 ∈ b then [a.getD k 0] else []) = _
  rw [if_pos (of_decide_eq_true h)]
theorem andF_no {a b : List Int} {k : Nat} (h : decide (a.getD k 0 ∈ b) = false) : andF a b (k + 1) = andF a b k := by
  show andF a b k ++ (if a.getD k 0 ∈ b then [a.getD k 0] else []) = _
  rw [if_neg (of_decide_eq_false h), List.append_nil]

set_option maxHeartbeats 1000000 in
theorem intersectG_any (a b : List Int) (A A2 : Option Addr) (c c2 : Nat) (w : World) (ha : a.length ≤ 1000) (hb : b.length ≤ 1000) (h0 : ∀ x ∈ a, 0 ≤ x) (hA : Ints w w.heap.size A a) (hB : Ints w w.heap.size A2 b) (hs : Asc b) :
    Calls Tryz.prog 29 #[.slice A a.length c, .slice A2 b.length c2] w fun e w' => ∃ v, e = .returned v ∧ OwnI w' w.heap.size v (andF a b a.length) ∧ Below w.heap.size w w' := by
  have HA := Lib.hid hA
  have HHS := Lib.hid (fun (x : Nat) (u : World) (hu : Below w.heap.size w u) => hasG_any b x A2 w.heap.size c2 u (by omega) (hB.below hu) hs)
  have H00 := Lib.hid h0
  clear hA hB hs h0
  have HY := Lib.hid (fun k h => andF_yes (a := a) (b := b) (k := k) h)
  have HN := Lib.hid (fun k h => andF_no (a := a) (b := b) (k := k) h)
  have HLE := Lib.hid (fun k => andF_le a b k)
  have H0 : Hid (andF a b 0 = []) := Lib.hid rfl
  generalize andF a b = P at *
  go_enter Tryz.func29, Tryz.ntmps29
  go_wp2_with fail
  go_loopw [5, 10] (fun v x wr => ∃ k : Nat, k ≤ a.length ∧ x = .int .i64 (k : Int) ∧ OwnI wr w.heap.size v (P k) ∧ Below w.heap.size w wr) (fun _ x _ => a.length - (intOf x).toNat)
  case atStart => exact ⟨0, Nat.zero_le _, rfl, by rw [H0.out]; exact OwnE.nil _ _ _, Below.refl _ _⟩
  case round =>
    obtain ⟨k, hk, rfl, hown, hbel⟩ := hrel
    have HG := Lib.hid hbel
    have hsz := hbel.size
    have e9 := HLE.out k
    obtain ⟨ao, cap, rfl⟩ := OwnE.slice hown
    have HW := Lib.hid hown
    by_cases hlt : k < a.length
    · have hk0 : (0 : Int) ≤ (k : Int) := by omega
      have hk1 : (k : Int) < ((a.length : Nat) : Int) := by omega
      have hk2 : ((k : Int)).toNat = k := by omega
      have HM : Hid (a.length - ((k : Int) + 1).toNat < a.length - ((k : Int)).toNat) := Lib.hid (by omega)
      have HLT := Lib.hid hlt
      obtain ⟨b1, off, rfl, hb1, hc⟩ := Ints.cells (HA.out.below hbel) hlt
      have ck := hc k hlt
      have hx0 := H00.out _ (getD_mem (d := (0 : Int)) hlt)
      obtain ⟨x, hx⟩ : ∃ x : Nat, a.getD k 0 = (x : Int) := ⟨(a.getD k 0).toNat, by omega⟩
      have HYx := Lib.hid (HY.out k)
      have HNx := Lib.hid (HN.out k)
      have HHK := Lib.hid (HHS.out x wr hbel)
      rw [hx] at ck HYx HNx
      clear hc hx0 hx HY HN
      clear hown hbel
      cases hz : decide ((x : Int) ∈ b)
      case false =>
        have HN2 := Lib.hid (HNx.out hz)
        rw [hz] at HHK
        clear hz
        go_wp2_with fail
        refine HHK.out.mono ?_
        rintro e w9 ⟨rfl, hb9⟩
        have HW9 := Lib.hid (OwnE.below HW.out hb9 (Nat.le_refl _))
        have HG9 := Lib.hid (HG.out.trans (hb9.mono hsz))
        have hsz9 : w.heap.size ≤ w9.heap.size := Nat.le_trans hsz hb9.size
        clear hb9 HW HG
        go_wp2_with fail
        go_roundw
        case rel => exact ⟨k + 1, HLT.out, by go_num, by rw [HN2.out]; exact HW9.out, HG9.out⟩
        case measure => exact HM.out
      case true =>
        have HY2 := Lib.hid (HYx.out hz)
        rw [hz] at HHK
        clear hz
        go_wp2_with fail
        refine HHK.out.mono ?_
        rintro e w9 ⟨rfl, hb9⟩
        have HW9 := Lib.hid (OwnE.below HW.out hb9 (Nat.le_refl _))
        have HG9 := Lib.hid (HG.out.trans (hb9.mono hsz))
        have hsz9 : w.heap.size ≤ w9.heap.size := Nat.le_trans hsz hb9.size
        clear hb9 HW HG
        go_wp2_with (at_builtin; refine wpList_append_int (w := w9.alloc _) rfl _ _ rfl w.heap.size _ (P k) rfl ?y1 w9.heap.size 1 ((x : Int)) rfl ?y2 ?y3 ?y4 ?_)
        case y1 => exact HW9.out.alloc _
        case y2 => exact cell_new _ _ _
        case y3 => omega
        case y4 => simp; omega
        intro v2 w2 hown2 _ hb2
        have HW2 := Lib.hid (OwnE.cast HY2.out.symm hown2)
        have HB2 := Lib.hid ((HG9.out.alloc hsz9 _).trans hb2)
        clear hown2 hb2
        go_wp2_with fail
        go_roundw
        case rel => exact ⟨k + 1, HLT.out, by go_num, HW2.out, HB2.out⟩
        case measure => exact HM.out
    · have e : k = a.length := by omega
      subst e
      clear hown hbel
      go_wp2_with fail
      go_ret
      exact ⟨_, rfl, HW.out, HG.out⟩

set_option maxHeartbeats 1000000 in
theorem missingG_any (l : List Int) (n : Nat) (A : Option Addr) (c : Nat) (w : World) (hl : l.length ≤ 1000) (hn : n ≤ 1000) (hB : Ints w w.heap.size A l) (hs : Asc l) :
    Calls Tryz.prog 26 #[.slice A l.length c, .int .i64 (n : Int)] w fun e w' => ∃ v, e = .returned v ∧ OwnI w' w.heap.size v (mis l n) ∧ Below w.heap.size w w' := by
  have HHS := Lib.hid (fun (x : Nat) (u : World) (hu : Below w.heap.size w u) => hasG_any l x A w.heap.size c u (by omega) (hB.below hu) hs)
  clear hB hs
  have HY := Lib.hid (fun k h => sel_yes (f := fun i => !inB l i) (k := k) h)
  have HN := Lib.hid (fun k h => sel_no (f := fun i => !inB l i) (k := k) h)
  have HLE := Lib.hid (fun k => sel_le (fun i => !inB l i) k)
  have H0 : Hid (sel (fun i => !inB l i) 0 = []) := Lib.hid rfl
  have HRR : Hid (mis l n = sel (fun i => !inB l i) n) := Lib.hid rfl
  generalize mis l n = RR at *
  generalize sel (fun i => !inB l i) = P at *
  go_enter Tryz.func26, Tryz.ntmps26
  go_wp2_with fail
  go_loopw [5, 8] (fun v x wr => ∃ k : Nat, k ≤ n ∧ x = .int .i64 (k : Int) ∧ OwnI wr w.heap.size v (P k) ∧ Below w.heap.size w wr) (fun _ x _ => n - (intOf x).toNat)
  case atStart => exact ⟨0, Nat.zero_le _, rfl, by rw [H0.out]; exact OwnE.nil _ _ _, Below.refl _ _⟩
  case round =>
    obtain ⟨k, hk, rfl, hown, hbel⟩ := hrel
    have HG := Lib.hid hbel
    have hsz := hbel.size
    have e9 := HLE.out k
    obtain ⟨ao, cap, rfl⟩ := OwnE.slice hown
    have HW := Lib.hid hown
    by_cases hlt : k < n
    · have hk0 : (0 : Int) ≤ (k : Int) := by omega
      have hk1 : (k : Int) < ((n : Nat) : Int) := by omega
      have hk2 : ((k : Int)).toNat = k := by omega
      have HM : Hid (n - ((k : Int) + 1).toNat < n - ((k : Int)).toNat) := Lib.hid (by omega)
      have HLT := Lib.hid hlt
      have HHK := Lib.hid (HHS.out k wr hbel)
      clear hown hbel
      cases hz : decide ((k : Int) ∈ l)
      case true =>
        have HN2 := Lib.hid (HN.out k (by show (!decide ((k : Int) ∈ l)) = false; rw [hz]; rfl))
        rw [hz] at HHK
        clear hz
        go_wp2_with fail
        refine HHK.out.mono ?_
        rintro e w9 ⟨rfl, hb9⟩
        have HW9 := Lib.hid (OwnE.below HW.out hb9 (Nat.le_refl _))
        have HG9 := Lib.hid (HG.out.trans (hb9.mono hsz))
        have hsz9 : w.heap.size ≤ w9.heap.size := Nat.le_trans hsz hb9.size
        clear hb9 HW HG
        go_wp2_with fail
        go_roundw
        case rel => exact ⟨k + 1, HLT.out, by go_num, by rw [HN2.out]; exact HW9.out, HG9.out⟩
        case measure => exact HM.out
      case false =>
        have HY2 := Lib.hid (HY.out k (by show (!decide ((k : Int) ∈ l)) = true; rw [hz]; rfl))
        rw [hz] at HHK
        clear hz
        go_wp2_with fail
        refine HHK.out.mono ?_
        rintro e w9 ⟨rfl, hb9⟩
        have HW9 := Lib.hid (OwnE.below HW.out hb9 (Nat.le_refl _))
        have HG9 := Lib.hid (HG.out.trans (hb9.mono hsz))
        have hsz9 : w.heap.size ≤ w9.heap.size := Nat.le_trans hsz hb9.size
        clear hb9 HW HG
        go_wp2_with (at_builtin; refine wpList_append_int (w := w9.alloc _) rfl _ _ rfl w.heap.size _ (P k) rfl ?y1 w9.heap.size 1 ((k : Int)) rfl ?y2 ?y3 ?y4 ?_)
        case y1 => exact HW9.out.alloc _
        case y2 => exact cell_new _ _ _
        case y3 => omega
        case y4 => simp; omega
        intro v2 w2 hown2 _ hb2
        have HW2 := Lib.hid (OwnE.cast HY2.out.symm hown2)
        have HB2 := Lib.hid ((HG9.out.alloc hsz9 _).trans hb2)
        clear hown2 hb2
        go_wp2_with fail
        go_roundw
        case rel => exact ⟨k + 1, HLT.out, by go_num, HW2.out, HB2.out⟩
        case measure => exact HM.out
    · have e : k = n := by omega
      subst e
      clear hown hbel
      go_wp2_with fail
      go_ret
      exact ⟨_, rfl, by rw [HRR.out]; exact HW.out, HG.out⟩

end Go.Proofs.YthnhacncnhknnaaGreatDoor

/-
  Few, Same, SameAll, Of, Then, Identity, Compose, Injective, Surjective, Inverse of the reference. Printed by mkrops.py.
-/
namespace Go.Proofs.YthnhacncnhknnaaGreatDoor
open Go.RowKit Go.Shelf

set_option maxHeartbeats 1000000 in
theorem sameR6_any (a b : Mo) (An : Option Addr) (cn : Nat) (Ae : Option Addr) (ce : Nat) (Bn : Option Addr) (dn : Nat) (Be : Option Addr) (de : Nat) (w : World) (l1 : a.ns.length ≤ maxLen) (l2 : a.es.length ≤ maxLen)
    (ha : Ints w w.heap.size An a.ns) (ha2 : Ints w w.heap.size Ae a.es) (hb : Ints w w.heap.size Bn b.ns) (hb2 : Ints w w.heap.size Be b.es) :
    Calls Tryz.prog 15 #[gval An a.ns.length cn Ae a.es.length ce, gval Bn b.ns.length dn Be b.es.length de] w fun e w' => e = .returned (.bool (decide (a = b))) ∧ Below w.heap.size w w' := by
  have HB0 : Hid (∀ o o', Below w.heap.size w ((w.alloc o).alloc o')) := Lib.hid fun o o' => ((Below.refl _ _).alloc (Nat.le_refl _) _).alloc (by simp) _
  have H1 := Lib.hid (fun u (hu : Below w.heap.size w u) => sameInts2_any a.ns b.ns An Bn w.heap.size w.heap.size cn dn u l1 (Reads.below ha hu) (Reads.below hb hu))
  have H2 := Lib.hid (fun u (hu : Below w.heap.size w u) => sameInts2_any a.es b.es Ae Be w.heap.size w.heap.size ce de u l2 (Reads.below ha2 hu) (Reads.below hb2 hu))
  have HX := Lib.hid (mo_eq a b)
  clear ha hb ha2 hb2
  generalize decide (a = b) = z at HX ⊢
  generalize decide (a.ns = b.ns) = z1 at H1 HX
  generalize decide (a.es = b.es) = z2 at H2 HX
  go_enter Tryz.func15, Tryz.ntmps15
  go_wp2_with fail
  refine (H1.out _ (HB0.out _ _)).mono ?_
  rintro e w1 ⟨rfl, hb1⟩
  obtain ⟨b0, b1, hsz⟩ := boxes2 hb1
  obtain ⟨c0, c1⟩ := cell2 b0
  obtain ⟨c2, c3⟩ := cell2 b1
  have HB := Lib.hid ((HB0.out _ _).trans (hb1.mono (by simp; omega)))
  clear b0 b1 hb1
  cases z1
  · go_wp2_with fail
    go_ret
    exact ⟨ret_bool (by rw [HX.out]; rfl), HB.out⟩
  · go_wp2_with fail
    refine (H2.out _ HB.out).mono ?_
    rintro e w2 ⟨rfl, hb2⟩
    have HB2 := Lib.hid (HB.out.trans (hb2.mono (by omega)))
    clear hb2
    go_wp2_with fail
    go_ret
    exact ⟨ret_bool (by rw [HX.out]; rfl), HB2.out⟩


def fewM (m : Mo) (n : Nat) : Bool := decide (m.ns.length + m.es.length ≤ n)
end Go.Proofs.YthnhacncnhknnaaGreatDoor

/-
  The boundary of a part and the connected components, as plain data.
-/
namespace Go.Proofs.YthnhacncnhknnaaGreatDoor
open Pt (at_)

theorem nds_has {L : List Nat} {n r i : Nat} : (i : Int) ∈ ndsOf L n r ↔ i < n ∧ at_ L i = r := by
  unfold ndsOf
  rw [coll_mem]
  constructor
  · rintro ⟨k, hk, h⟩
    split at h
    · rename_i e; have : i = k := by simp at h; omega
      subst this; exact ⟨hk, e⟩
    · simp at h
  · rintro ⟨h1, h2⟩; exact ⟨i, h1, by rw [if_pos h2]; simp⟩
theorem eds_has {g : Gr} {L : List Nat} {m r i : Nat} : (i : Int) ∈ edsOf g L m r ↔ i < m ∧ at_ L (frN g i) = r := by
  unfold edsOf
  rw [coll_mem]
  constructor
  · rintro ⟨k, hk, h⟩
    split at h
    · rename_i e; have : i = k := by simp at h; omega
      subst this; exact ⟨hk, e⟩
    · simp at h
  · rintro ⟨h1, h2⟩; exact ⟨i, h1, by rw [if_pos h2]; simp⟩
theorem nds_sel (L : List Nat) (n r : Nat) : ndsOf L n r = sel (fun i => decide (at_ L i = r)) n := coll_ext fun i _ => by simp only [decide_eq_true_eq]
theorem eds_sel (g : Gr) (L : List Nat) (n r : Nat) : edsOf g L n r = sel (fun i => decide (at_ L (frN g i) = r)) n := coll_ext fun i _ => by simp only [decide_eq_true_eq]
theorem comp_mem {g : Gr} (hv : validE g = 0) {c : Mo} : c ∈ compR g ↔ ∃ r, r < g.ns.length ∧ at_ (lstS g) r = r ∧ c = ⟨ndsOf (lstS g) g.ns.length r, edsOf g (lstS g) g.es.length r⟩ := by
  unfold compR
  rw [if_pos hv]
  unfold compTo Pt.fixsTo
  simp only [List.mem_map, List.mem_filter, List.mem_range, beq_iff_eq]
  constructor
  · rintro ⟨r, ⟨h1, h2⟩, rfl⟩; exact ⟨r, h1, h2, rfl⟩
  · rintro ⟨r, h1, h2, rfl⟩; exact ⟨r, ⟨h1, h2⟩, rfl⟩
theorem comp_part {g : Gr} (hv : validE g = 0) {c : Mo} (h : c ∈ compR g) : PartOk g c := by
  obtain ⟨r, h1, h2, rfl⟩ := (comp_mem hv).1 h
  refine ⟨?_, ?_, ?_, ?_, fun i hi => ?_⟩
  · show Asc (ndsOf _ _ _); rw [nds_sel]; exact sel_asc _ _
  · show ∀ x ∈ ndsOf _ _ _, _; rw [nds_sel]; exact sel_rng
  · show Asc (edsOf _ _ _ _); rw [eds_sel]; exact sel_asc _ _
  · show ∀ x ∈ edsOf _ _ _ _, _; rw [eds_sel]; exact sel_rng
  · obtain ⟨hi, e⟩ := eds_has.1 hi
    obtain ⟨e1, l1, e2, l2⟩ := fr_eq hv hi
    rw [e1, e2]
    exact ⟨nds_has.2 ⟨l1, e⟩, nds_has.2 ⟨l2, by rw [← lst_edge hv hi]; exact e⟩⟩
/-- a part without a boundary has all nodes that are connected, or none of them -/
theorem bnd_conn {g : Gr} (hv : validE g = 0) {p : Mo} (hb : bndL g p = []) (hp : PartOk g p) {i k : Nat} (hi : i < g.ns.length) (hk : k < g.ns.length) (e : at_ (lstS g) i = at_ (lstS g) k) (h : (i : Int) ∈ p.ns) : (k : Int) ∈ p.ns := by
  have hin : ∀ x, x < g.es.length → ((frN g x : Int) ∈ p.ns ∨ (toN g x : Int) ∈ p.ns) → (x : Int) ∈ p.es := fun x hx hor => by
    refine Classical.byContradiction fun hn => ?_
    obtain ⟨_, l1, _, l2⟩ := fr_eq hv hx
    rcases hor with h | h
    · have := bnd_has.2 ⟨l1, h, x, hx, hn, .inl rfl⟩
      rw [hb] at this; simp at this
    · have := bnd_has.2 ⟨l2, h, x, hx, hn, .inr rfl⟩
      rw [hb] at this; simp at this
  have q : Pt.Resp ((List.range g.ns.length).map fun (j : Nat) => if (j : Int) ∈ p.ns then 1 else 0) (endsL g) := by
    intro x hx
    obtain ⟨y, hy, e⟩ := List.mem_iff_getElem.1 hx
    have hy' : y < g.es.length := by simpa [endsL_len] using hy
    have e2 : (endsL g)[y]? = some x := by rw [List.getElem?_eq_getElem hy, e]
    rw [endsL_get hy'] at e2
    injection e2 with e2
    subst e2
    obtain ⟨e3, l1, e4, l2⟩ := fr_eq hv hy'
    have at1 : ∀ j, j < g.ns.length → at_ ((List.range g.ns.length).map fun (j : Nat) => if (j : Int) ∈ p.ns then 1 else 0) j = if (j : Int) ∈ p.ns then 1 else 0 := fun j hj => by
      unfold at_; simp [hj]
    show at_ _ (frN g y) = at_ _ (toN g y)
    rw [at1 _ l1, at1 _ l2]
    by_cases h1 : (frN g y : Int) ∈ p.ns
    · have := hp.dn y (hin y hy' (.inl h1))
      rw [e4] at this
      rw [if_pos h1, if_pos this.2]
    · by_cases h2 : (toN g y : Int) ∈ p.ns
      · have := hp.dn y (hin y hy' (.inr h2))
        rw [e3] at this
        exact absurd this.1 h1
      · rw [if_neg h1, if_neg h2]
  have hF := Pt.gen_least (ends_inR hv) q
  have at1 : ∀ j, j < g.ns.length → at_ ((List.range g.ns.length).map fun (j : Nat) => if (j : Int) ∈ p.ns then 1 else 0) j = if (j : Int) ∈ p.ns then 1 else 0 := fun j hj => by
    unfold at_; simp [hj]
  have f1 := hF i (by rw [Pt.genS_length]; exact hi)
  have f2 := hF k (by rw [Pt.genS_length]; exact hk)
  have e' : at_ (Pt.genS g.ns.length (endsL g)) i = at_ (Pt.genS g.ns.length (endsL g)) k := e
  rw [e', f2, at1 k hk, at1 i hi, if_pos h] at f1
  by_cases hk2 : (k : Int) ∈ p.ns
  · exact hk2
  · rw [if_neg hk2] at f1; omega
theorem bnd_whole {g : Gr} (hv : validE g = 0) {p : Mo} (hp : PartOk g p) : (∀ c ∈ compR g, andL c.ns p.ns g.ns.length ≠ [] → inP c p = true) ↔ bndL g p = [] := by
  have hV := lstS_V hv
  have hlen := lstS_len g
  constructor
  · intro h
    refine List.eq_nil_iff_forall_not_mem.2 fun x hx => ?_
    obtain ⟨i, hi, _, rfl⟩ := sel_mem.1 hx
    obtain ⟨_, hin, e, he, hne, ht⟩ := bnd_has.1 hx
    obtain ⟨_, l1, _, l2⟩ := fr_eq hv he
    have hl := lst_edge hv he
    have hr := hV i (by omega)
    have hc : (⟨ndsOf (lstS g) g.ns.length (at_ (lstS g) i), edsOf g (lstS g) g.es.length (at_ (lstS g) i)⟩ : Mo) ∈ compR g := (comp_mem hv).2 ⟨_, by omega, hr.2, rfl⟩
    have hm := h _ hc (fun e0 => by
      have : (i : Int) ∈ andL (ndsOf (lstS g) g.ns.length (at_ (lstS g) i)) p.ns g.ns.length := andL_has.2 ⟨hi, nds_has.2 ⟨hi, rfl⟩, hin⟩
      have e1 : andL (ndsOf (lstS g) g.ns.length (at_ (lstS g) i)) p.ns g.ns.length = [] := e0
      rw [e1] at this; simp at this)
    refine hne ((inP_iff.1 hm).2 _ (eds_has.2 ⟨he, ?_⟩))
    rcases ht with e | e
    · rw [e]
    · rw [hl, e]
  · intro hb c hc hne
    obtain ⟨r, hr, hrr, rfl⟩ := (comp_mem hv).1 hc
    obtain ⟨x, hx⟩ := List.exists_mem_of_ne_nil _ hne
    obtain ⟨i, hi, _, rfl⟩ := sel_mem.1 hx
    obtain ⟨_, hx1, hx2⟩ := andL_has.1 hx
    obtain ⟨_, hx1⟩ := nds_has.1 hx1
    have hall : ∀ k, k < g.ns.length → at_ (lstS g) k = r → (k : Int) ∈ p.ns := fun k hk e => bnd_conn hv hb hp hi hk (by rw [hx1, e]) hx2
    refine inP_iff.2 ⟨fun y hy => ?_, fun y hy => ?_⟩
    · have hy' : y ∈ ndsOf (lstS g) g.ns.length r := hy
      obtain ⟨k, hk, rfl⟩ := has_nat (n := g.ns.length) (by rw [nds_sel]; exact sel_rng) hy'
      exact hall k hk (nds_has.1 hy').2
    · have hy' : y ∈ edsOf g (lstS g) g.es.length r := hy
      obtain ⟨k, hk, rfl⟩ := has_nat (n := g.es.length) (by rw [eds_sel]; exact sel_rng) hy'
      obtain ⟨_, e⟩ := eds_has.1 hy'
      obtain ⟨_, l1, _, _⟩ := fr_eq hv hk
      refine Classical.byContradiction fun hn => ?_
      have := bnd_has.2 ⟨l1, hall _ l1 e, k, hk, hn, .inl rfl⟩
      rw [hb] at this; simp at this

end Go.Proofs.YthnhacncnhknnaaGreatDoor

/-
  What the texts on parts need: boxes of any number of cells; stores into boxes of slices; calls that hand over a part or a morphism; what the functions on parts promise, in one form for the program and the reference.
-/
namespace Go.Proofs.YthnhacncnhknnaaGreatDoor
open Go.RowKit Go.Shelf

/-- since w: boxes in new blocks, one after another -/
def SV (w : World) (L : List (List Value × TypeId)) (u : World) : Prop := Below w.heap.size w u ∧ w.heap.size + L.length ≤ u.heap.size ∧ ∀ (i : Nat) (x : List Value × TypeId), L[i]? = some x → u.heap[w.heap.size + i]? = some (.cells x.1.toArray x.2 (0, 0))
theorem SV.nil (w : World) : SV w [] w := ⟨Below.refl _ _, Nat.le_refl _, fun i x h => by simp at h⟩
theorem SV.push {w u : World} {L : List (List Value × TypeId)} (h : SV w L u) (hs : u.heap.size = w.heap.size + L.length) (cs : List Value) (t : TypeId) : SV w (L ++ [(cs, t)]) (u.alloc (.cells cs.toArray t)) := by
  refine ⟨h.1.alloc (by omega) _, by simp; omega, fun i x hx => ?_⟩
  by_cases hi : i < L.length
  · rw [List.getElem?_append_left hi] at hx
    rw [at_alloc, if_neg (by omega)]
    exact h.2.2 i x hx
  · rw [List.getElem?_append_right (by omega)] at hx
    have h0 : i - L.length = 0 := by
      rcases Nat.eq_zero_or_pos (i - L.length) with h | h
      · exact h
      · rw [List.getElem?_eq_none (by simp; omega)] at hx; cases hx
    rw [h0] at hx
    simp at hx
    subst hx
    rw [at_alloc, if_pos (by omega)]
theorem SV.up {w u u' : World} {L : List (List Value × TypeId)} (h : SV w L u) (hb : Below u.heap.size u u') : SV w L u' := ⟨h.1.trans (hb.mono h.1.size), Nat.le_trans h.2.1 hb.size, fun i x hx => heap_up hb (h.2.2 i x hx)⟩
theorem SV.cell {w u : World} {L : List (List Value × TypeId)} (h : SV w L u) {i j : Nat} {x : List Value × TypeId} {v : Value} (hx : L[i]? = some x) (hv : x.1[j]? = some v) : u.cell? ⟨w.heap.size + i, j, none⟩ = some v := by
  rw [cell_of_row _ _ j _ _ _ (h.2.2 i x hx)]
  simpa using hv
theorem SV.set {w u : World} {L : List (List Value × TypeId)} (h : SV w L u) {g : Nat} (hg : w.heap.size + L.length ≤ g) (y z : Value) : SV w L ((u.setCell ⟨g, 0, none⟩ y).setCell ⟨g, 1, none⟩ z) := by
  refine ⟨(h.1.setCell (p := ⟨g, 0, none⟩) (by show w.heap.size ≤ g; omega) y).setCell (p := ⟨g, 1, none⟩) (by show w.heap.size ≤ g; omega) z, by simpa using h.2.1, fun k x hx => ?_⟩
  have hl : k < L.length := (List.getElem?_eq_some_iff.1 hx).1
  exact (heap_setCell_other _ _ _ _ (by show w.heap.size + k ≠ g; omega)).trans ((heap_setCell_other _ _ _ _ (by show w.heap.size + k ≠ g; omega)).trans (h.2.2 k x hx))
/-- a box of two slices -/
def BX (g : Nat) (u v : Value) (t : TypeId) (W : World) : Prop := W.heap[g]? = some (.cells #[u, v] t (0, 0))
theorem BX.up {g : Nat} {u v : Value} {t : TypeId} {W W' : World} (h : BX g u v t W) (hb : Below W.heap.size W W') : BX g u v t W' := heap_up hb h
theorem BX.cells {g : Nat} {u v : Value} {t : TypeId} {W : World} (h : BX g u v t W) : W.cell? ⟨g, 0, none⟩ = some u ∧ W.cell? ⟨g, 1, none⟩ = some v := cell2 h
theorem BX.free {g : Nat} {u v : Value} {t : TypeId} {W : World} (h : BX g u v t W) (j : Nat) : W.frozen? ⟨g, j, none⟩ = false := frozen_of_row _ _ _ _ _ h
theorem BX.lt {g : Nat} {u v : Value} {t : TypeId} {W : World} (h : BX g u v t W) : g < W.heap.size := heap_lt h
theorem BX.far {g k : Nat} {u v : Value} {t : TypeId} {W : World} (h : BX g u v t W) (hk : g ≠ k) (y z : Value) : BX g u v t ((W.setCell ⟨k, 0, none⟩ y).setCell ⟨k, 1, none⟩ z) :=
  (heap_setCell_other _ _ _ _ (by show g ≠ k; exact hk)).trans ((heap_setCell_other _ _ _ _ (by show g ≠ k; exact hk)).trans h)
theorem BX.put {g : Nat} {u v : Value} {t : TypeId} {W : World} (h : BX g u v t W) (y z : Value) : BX g y z t ((W.setCell ⟨g, 0, none⟩ y).setCell ⟨g, 1, none⟩ z) := store2 (h := g) ⟨_, _, h⟩ y z
/-- a store into a box of slices turns no slice of numbers -/
theorem ints_set {w : World} {B : Nat} {A : Option Addr} {xs : List Int} (h : Ints w B A xs) {g : Nat} {a a' : Option Addr} {n c n' c' : Nat} {t : TypeId} (hb : BX g (.slice a n c) (.slice a' n' c') t w) (y z : Value) : Ints ((w.setCell ⟨g, 0, none⟩ y).setCell ⟨g, 1, none⟩ z) B A xs := by
  rcases h with h | ⟨b, off, h1, h2, h3⟩
  · exact .inl h
  · refine .inr ⟨b, off, h1, h2, fun i x hx q u hu => ?_⟩
    have hc := h3 i x hx q u hu
    have hne : g ≠ b := fun e => by
      subst e
      rw [cell_of_row _ _ _ _ _ _ hb] at hc
      have hm : u ∈ (#[Value.slice a n c, Value.slice a' n' c'] : Array Value) := Array.mem_of_getElem? hc
      have hm2 : u = .int .i64 x := by simpa [EInt] using List.mem_of_getElem? hu
      subst hm2
      simp at hm
    rw [World.cell?_setCell_far _ _ _ _ hne, World.cell?_setCell_far _ _ _ _ hne]
    exact hc
theorem ints_set' {w : World} {A : Option Addr} {xs : List Int} (h : Ints w w.heap.size A xs) {g : Nat} {a a' : Option Addr} {n c n' c' : Nat} {t : TypeId} (hb : BX g (.slice a n c) (.slice a' n' c') t w) (y z : Value) : Ints ((w.setCell ⟨g, 0, none⟩ y).setCell ⟨g, 1, none⟩ z) ((w.setCell ⟨g, 0, none⟩ y).setCell ⟨g, 1, none⟩ z).heap.size A xs := by
  have := ints_set h hb y z
  simpa using this
/-- the reference's Same, of two equal ones -/
theorem sameR_refl (a : Mo) (An : Option Addr) (cn : Nat) (Ae : Option Addr) (ce : Nat) (Bn : Option Addr) (dn : Nat) (Be : Option Addr) (de : Nat) (w : World) (l : a.ns.length ≤ maxLen ∧ a.es.length ≤ maxLen)
    (ha : Ints w w.heap.size An a.ns) (ha2 : Ints w w.heap.size Ae a.es) (hb : Ints w w.heap.size Bn a.ns) (hb2 : Ints w w.heap.size Be a.es) :
    Calls Tryz.prog 15 #[gval An a.ns.length cn Ae a.es.length ce, gval Bn a.ns.length dn Be a.es.length de] w fun e w' => e = .returned (.bool true) ∧ Below w.heap.size w w' := by
  have h := sameR6_any a a An cn Ae ce Bn dn Be de w l.1 l.2 ha ha2 hb hb2
  rw [decide_eq_true rfl] at h
  exact h
/-- a call that hands over a morphism -/
abbrev GivesM (f : FuncId) (args : Array Value) (E : Nat) (R : Mo) (u : World) : Prop := Calls Tryz.prog f args u fun e w' => (∃ Xn xn Xe xe, e = .returned (.tuple #[gval Xn R.ns.length xn Xe R.es.length xe, .int .i64 (E : Int)]) ∧ Ints w' w'.heap.size Xn R.ns ∧ Ints w' w'.heap.size Xe R.es ∧ R.ns.length ≤ maxLen ∧ R.es.length ≤ maxLen) ∧ Below u.heap.size u w'
theorem givesM {f : FuncId} {args : Array Value} {E : Nat} {R : Mo} {u : World} (h : Calls Tryz.prog f args u fun e w' => (∃ v, e = .returned (.tuple #[v, .int .i64 (E : Int)]) ∧ IsM w' v R) ∧ Below u.heap.size u w') : GivesM f args E R u := by
  refine h.mono ?_
  rintro e w' ⟨⟨v, rfl, Xn, xn, Xe, xe, rfl, hx⟩, hb⟩
  exact ⟨⟨Xn, xn, Xe, xe, rfl, hx.ns, hx.es, Nat.le_trans hx.cn.1 hx.cn.2, Nat.le_trans hx.ce.1 hx.ce.2⟩, hb⟩
abbrev R2 (m : Mo) : Prop := m.ns.length ≤ maxLen ∧ m.es.length ≤ maxLen

/-! what the functions on parts promise -/
/-- a part in memory -/
structure PtAt (w : World) (An Ae : Option Addr) (p : Mo) : Prop where
  ns : Ints w w.heap.size An p.ns
  es : Ints w w.heap.size Ae p.es
  ln : p.ns.length ≤ 1000
  le : p.es.length ≤ 1000
theorem PtAt.up {w w' : World} {An Ae : Option Addr} {p : Mo} (h : PtAt w An Ae p) (hb : Below w.heap.size w w') : PtAt w' An Ae p := ⟨Reads.up h.ns hb, Reads.up h.es hb, h.ln, h.le⟩
def ValidC (f : FuncId) : Prop := ∀ (g : Gr) (p : Mo) (An : Option Addr) (cn : Nat) (Ae : Option Addr) (ce : Nat) (Pn : Option Addr) (pn : Nat) (Pe : Option Addr) (pe : Nat) (w : World), GrAt w An cn Ae ce g → PtAt w Pn Pe p →
  Calls Tryz.prog f #[gval An g.ns.length cn Ae g.es.length ce, gval Pn p.ns.length pn Pe p.es.length pe] w fun e w' => e = .returned (.int .i64 (partE g p : Nat)) ∧ Below w.heap.size w w'
/-- of a graph that is right -/
def RightC (f : FuncId) : Prop := ∀ (g : Gr) (p : Mo) (An : Option Addr) (cn : Nat) (Ae : Option Addr) (ce : Nat) (Pn : Option Addr) (pn : Nat) (Pe : Option Addr) (pe : Nat) (w : World), GrAt w An cn Ae ce g → validE g = 0 → PtAt w Pn Pe p →
  Calls Tryz.prog f #[gval An g.ns.length cn Ae g.es.length ce, gval Pn p.ns.length pn Pe p.es.length pe] w fun e w' => e = .returned (.int .i64 (rightE g p : Nat)) ∧ Below w.heap.size w w'
def CloseC (f : FuncId) : Prop := ∀ (g : Gr) (vs xs : List Int) (An : Option Addr) (cn : Nat) (Ae : Option Addr) (ce : Nat) (A : Option Addr) (a : Nat) (B : Option Addr) (b : Nat) (w : World), GrAt w An cn Ae ce g → Ints w w.heap.size A vs → Ints w w.heap.size B xs → vs.length ≤ 200 → xs.length ≤ 200 →
  GivesM f #[gval An g.ns.length cn Ae g.es.length ce, .slice A vs.length a, .slice B xs.length b] (closeE g vs xs) (closeP g vs xs) w
def TwoC (f : FuncId) (R : Gr → Mo → Mo → Mo) : Prop := ∀ (g : Gr) (p q : Mo) (An : Option Addr) (cn : Nat) (Ae : Option Addr) (ce : Nat) (Pn : Option Addr) (pn : Nat) (Pe : Option Addr) (pe : Nat) (Qn : Option Addr) (qn : Nat) (Qe : Option Addr) (qe : Nat) (w : World), GrAt w An cn Ae ce g → PtAt w Pn Pe p → PtAt w Qn Qe q →
  GivesM f #[gval An g.ns.length cn Ae g.es.length ce, gval Pn p.ns.length pn Pe p.es.length pe, gval Qn q.ns.length qn Qe q.es.length qe] (twoE g p q) (R g p q) w
/-- a call that hands over a graph, a morphism and an error -/
abbrev GivesGM (f : FuncId) (args : Array Value) (E : Nat) (G : Gr) (R : Mo) (u : World) : Prop := Calls Tryz.prog f args u fun e w' => (∃ Gn gn Ge ge Xn xn Xe xe, e = .returned (.tuple #[gval Gn G.ns.length gn Ge G.es.length ge, gval Xn R.ns.length xn Xe R.es.length xe, .int .i64 (E : Int)]) ∧ GrAt w' Gn gn Ge ge G ∧ Ints w' w'.heap.size Xn R.ns ∧ Ints w' w'.heap.size Xe R.es ∧ R.ns.length ≤ maxLen ∧ R.es.length ≤ maxLen) ∧ Below u.heap.size u w'
def ExtC (f : FuncId) : Prop := ∀ (g : Gr) (p : Mo) (An : Option Addr) (cn : Nat) (Ae : Option Addr) (ce : Nat) (Pn : Option Addr) (pn : Nat) (Pe : Option Addr) (pe : Nat) (w : World), GrAt w An cn Ae ce g → PtAt w Pn Pe p →
  GivesGM f #[gval An g.ns.length cn Ae g.es.length ce, gval Pn p.ns.length pn Pe p.es.length pe] (partE g p) (extG g p) (extM g p) w
def ImgC (f : FuncId) : Prop := ∀ (a b : Gr) (m : Mo) (An : Option Addr) (cn : Nat) (Ae : Option Addr) (ce : Nat) (Bn : Option Addr) (dn : Nat) (Be : Option Addr) (de : Nat) (Mn : Option Addr) (mn : Nat) (Me : Option Addr) (me : Nat) (w : World), GrAt w An cn Ae ce a → GrAt w Bn dn Be de b → PtAt w Mn Me m →
  GivesM f #[gval An a.ns.length cn Ae a.es.length ce, gval Bn b.ns.length dn Be b.es.length de, gval Mn m.ns.length mn Me m.es.length me] (morE a b m) (imR a b m) w
def PreC (f : FuncId) : Prop := ∀ (a b : Gr) (m p : Mo) (An : Option Addr) (cn : Nat) (Ae : Option Addr) (ce : Nat) (Bn : Option Addr) (dn : Nat) (Be : Option Addr) (de : Nat) (Mn : Option Addr) (mn : Nat) (Me : Option Addr) (me : Nat) (Pn : Option Addr) (pn : Nat) (Pe : Option Addr) (pe : Nat) (w : World), GrAt w An cn Ae ce a → GrAt w Bn dn Be de b → PtAt w Mn Me m → PtAt w Pn Pe p →
  GivesM f #[gval An a.ns.length cn Ae a.es.length ce, gval Bn b.ns.length dn Be b.es.length de, gval Mn m.ns.length mn Me m.es.length me, gval Pn p.ns.length pn Pe p.es.length pe] (preE a b m p) (preR a b m p) w
/-- a call that hands over a list of numbers and an error -/
abbrev GivesI (f : FuncId) (args : Array Value) (E : Nat) (R : List Int) (u : World) : Prop := Calls Tryz.prog f args u fun e w' => (∃ X x, e = .returned (.tuple #[.slice X R.length x, .int .i64 (E : Int)]) ∧ Ints w' w'.heap.size X R ∧ R.length ≤ maxLen) ∧ Below u.heap.size u w'
def BndC (f : FuncId) : Prop := ∀ (g : Gr) (p : Mo) (An : Option Addr) (cn : Nat) (Ae : Option Addr) (ce : Nat) (Pn : Option Addr) (pn : Nat) (Pe : Option Addr) (pe : Nat) (w : World), GrAt w An cn Ae ce g → PtAt w Pn Pe p →
  GivesI f #[gval An g.ns.length cn Ae g.es.length ce, gval Pn p.ns.length pn Pe p.es.length pe] (partE g p) (bndR g p) w
/-- the library's table lies in its variable -/
def TabV (w : World) : Prop := (∀ j, j < 64 → w.cell? ⟨1, j, none⟩ = some (.int .u8 (Lib.deBruijn64tab.getD j 0))) ∧ 1 < w.heap.size
theorem TabV.up {w w' : World} (h : TabV w) (hb : Below w.heap.size w w') : TabV w' := by
  refine ⟨fun j hj => ?_, Nat.lt_of_lt_of_le h.2 hb.size⟩
  exact (hb.cell (p := ⟨1, j, none⟩) h.2).trans (h.1 j hj)
def AllC (f : FuncId) : Prop := ∀ (g : Gr) (An : Option Addr) (cn : Nat) (Ae : Option Addr) (ce : Nat) (w : World), TabV w → GrAt w An cn Ae ce g →
  Calls Tryz.prog f #[gval An g.ns.length cn Ae g.es.length ce] w fun e w' => (∃ v, e = .returned (.tuple #[v, .int .i64 (pAllE g : Nat)]) ∧ IsP w' v (pAllR g)) ∧ Below w.heap.size w w'

end Go.Proofs.YthnhacncnhknnaaGreatDoor

/-
  Parts of graphs, the reference: merged, bits, compare, Compare, Same, Few.
-/
namespace Go.Proofs.YthnhacncnhknnaaGreatDoor
open Go.RowKit Go.Shelf

def mrg (all x y : Bool) : Bool := (x && y) || (!all && (x || y))
theorem mrg_or (x y : Bool) : mrg false x y = (x || y) := by cases x <;> cases y <;> rfl
theorem mrg_and (x y : Bool) : mrg true x y = (x && y) := by cases x <;> cases y <;> rfl
set_option maxHeartbeats 1000000 in
theorem merged_any (n : Nat) (a b : List Int) (all : Bool) (A B : Option Addr) (c d : Nat) (w : World) (hn : n ≤ 1000) (la : a.length ≤ 1000) (lb : b.length ≤ 1000) (hA : Ints w w.heap.size A a) (hB : Ints w w.heap.size B b) :
    Calls Tryz.prog 32 #[.int .i64 (n : Int), .slice A a.length c, .slice B b.length d, .bool all] w fun e w' => ∃ v, e = .returned v ∧ OwnI w' w.heap.size v (sel (fun i => mrg all (inB a i) (inB b i)) n) ∧ Below w.heap.size w w' := by
  have HA := Lib.hid (fun (x : Int) (u : World) (hu : Below w.heap.size w u) => has7_any a x A w.heap.size c u (by unfold maxLen; omega) (hA.below hu))
  have HB := Lib.hid (fun (x : Int) (u : World) (hu : Below w.heap.size w u) => has7_any b x B w.heap.size d u (by unfold maxLen; omega) (hB.below hu))
  clear hA hB
  have HY := Lib.hid (fun k (h : (fun i => mrg all (inB a i) (inB b i)) k = true) => sel_yes (f := (fun i => mrg all (inB a i) (inB b i))) h)
  have HN := Lib.hid (fun k (h : (fun i => mrg all (inB a i) (inB b i)) k = false) => sel_no (f := (fun i => mrg all (inB a i) (inB b i))) h)
  have HLE := Lib.hid (fun k => sel_le (fun i => mrg all (inB a i) (inB b i)) k)
  have H0 : Hid (sel (fun i => mrg all (inB a i) (inB b i)) 0 = []) := Lib.hid rfl
  generalize sel (fun i => mrg all (inB a i) (inB b i)) = P at *
  go_enter Tryz.func32, Tryz.ntmps32
  go_wp2_with fail
  go_loopw [9, 10] (fun v x wr => ∃ k : Nat, k ≤ n ∧ x = .int .i64 (k : Int) ∧ OwnI wr w.heap.size v (P k) ∧ Below w.heap.size w wr) (fun _ x _ => n - (intOf x).toNat)
  case atStart => exact ⟨0, Nat.zero_le _, rfl, by rw [H0.out]; exact OwnE.nil _ _ _, Below.refl _ _⟩
  case round =>
    obtain ⟨k, hk, rfl, hown, hbel⟩ := hrel
    have HG := Lib.hid hbel
    have hsz := hbel.size
    have e9 := HLE.out k
    obtain ⟨ao, cap, rfl⟩ := OwnE.slice hown
    have HW := Lib.hid hown
    by_cases hlt : k < n
    · have hk0 : (0 : Int) ≤ (k : Int) := by omega
      have hk1 : (k : Int) < ((n : Nat) : Int) := by omega
      have hk2 : ((k : Int)).toNat = k := by omega
      have HM : Hid (n - ((k : Int) + 1).toNat < n - ((k : Int)).toNat) := Lib.hid (by omega)
      have HLT := Lib.hid hlt
      obtain ⟨r1, r2⟩ := And.intro (Lib.hid (HA.out (k : Int) wr hbel)) (Lib.hid (HB.out (k : Int) wr hbel))
      have HYK := Lib.hid (HY.out k)
      have HNK := Lib.hid (HN.out k)
      clear hown hbel
      simp only [inB] at HYK HNK
      generalize decide ((k : Int) ∈ a) = x at r1 HYK HNK
      generalize decide ((k : Int) ∈ b) = y at r2 HYK HNK
      cases all <;> cases x <;> cases y
      case false.false.false =>
        have HN2 := Lib.hid (HNK.out rfl)
        clear HYK HNK
        go_wp2_with fail
        refine r1.out.mono ?_
        rintro e w8 ⟨rfl, rfl⟩
        go_wp2_with fail
        refine r2.out.mono ?_
        rintro e w9 ⟨rfl, rfl⟩
        clear r1 r2
        go_wp2_with fail
        go_roundw
        case rel => exact ⟨k + 1, HLT.out, by go_num, by rw [HN2.out]; exact HW.out, HG.out⟩
        case measure => exact HM.out
      case false.false.true =>
        have HY2 := Lib.hid (HYK.out rfl)
        clear HYK HNK
        go_wp2_with fail
        refine r1.out.mono ?_
        rintro e w8 ⟨rfl, rfl⟩
        go_wp2_with fail
        refine r2.out.mono ?_
        rintro e w9 ⟨rfl, rfl⟩
        clear r1 r2
        go_wp2_with (at_builtin; refine wpList_append_int (w := w9.alloc _) rfl _ _ rfl w.heap.size _ (P k) rfl ?y1 w9.heap.size 1 (k : Int) rfl ?y2 ?y3 ?y4 ?_)
        case y1 => exact HW.out.alloc _
        case y2 => exact cell_new _ _ _
        case y3 => omega
        case y4 => simp; omega
        intro v2 w2 hown2 _ hb2
        have HW2 := Lib.hid (OwnE.cast HY2.out.symm hown2)
        have HB2 := Lib.hid ((HG.out.alloc hsz _).trans hb2)
        clear hown2 hb2
        go_wp2_with fail
        go_roundw
        case rel => exact ⟨k + 1, HLT.out, by go_num, HW2.out, HB2.out⟩
        case measure => exact HM.out
      case false.true.false =>
        have HY2 := Lib.hid (HYK.out rfl)
        clear HYK HNK
        go_wp2_with fail
        refine r1.out.mono ?_
        rintro e w8 ⟨rfl, rfl⟩
        go_wp2_with fail
        refine r2.out.mono ?_
        rintro e w9 ⟨rfl, rfl⟩
        clear r1 r2
        go_wp2_with (at_builtin; refine wpList_append_int (w := w9.alloc _) rfl _ _ rfl w.heap.size _ (P k) rfl ?y1 w9.heap.size 1 (k : Int) rfl ?y2 ?y3 ?y4 ?_)
        case y1 => exact HW.out.alloc _
        case y2 => exact cell_new _ _ _
        case y3 => omega
        case y4 => simp; omega
        intro v2 w2 hown2 _ hb2
        have HW2 := Lib.hid (OwnE.cast HY2.out.symm hown2)
        have HB2 := Lib.hid ((HG.out.alloc hsz _).trans hb2)
        clear hown2 hb2
        go_wp2_with fail
        go_roundw
        case rel => exact ⟨k + 1, HLT.out, by go_num, HW2.out, HB2.out⟩
        case measure => exact HM.out
      case false.true.true =>
        have HY2 := Lib.hid (HYK.out rfl)
        clear HYK HNK
        go_wp2_with fail
        refine r1.out.mono ?_
        rintro e w8 ⟨rfl, rfl⟩
        go_wp2_with fail
        refine r2.out.mono ?_
        rintro e w9 ⟨rfl, rfl⟩
        clear r1 r2
        go_wp2_with (at_builtin; refine wpList_append_int (w := w9.alloc _) rfl _ _ rfl w.heap.size _ (P k) rfl ?y1 w9.heap.size 1 (k : Int) rfl ?y2 ?y3 ?y4 ?_)
        case y1 => exact HW.out.alloc _
        case y2 => exact cell_new _ _ _
        case y3 => omega
        case y4 => simp; omega
        intro v2 w2 hown2 _ hb2
        have HW2 := Lib.hid (OwnE.cast HY2.out.symm hown2)
        have HB2 := Lib.hid ((HG.out.alloc hsz _).trans hb2)
        clear hown2 hb2
        go_wp2_with fail
        go_roundw
        case rel => exact ⟨k + 1, HLT.out, by go_num, HW2.out, HB2.out⟩
        case measure => exact HM.out
      case true.false.false =>
        have HN2 := Lib.hid (HNK.out rfl)
        clear HYK HNK
        go_wp2_with fail
        refine r1.out.mono ?_
        rintro e w8 ⟨rfl, rfl⟩
        go_wp2_with fail
        refine r2.out.mono ?_
        rintro e w9 ⟨rfl, rfl⟩
        clear r1 r2
        go_wp2_with fail
        go_roundw
        case rel => exact ⟨k + 1, HLT.out, by go_num, by rw [HN2.out]; exact HW.out, HG.out⟩
        case measure => exact HM.out
      case true.false.true =>
        have HN2 := Lib.hid (HNK.out rfl)
        clear HYK HNK
        go_wp2_with fail
        refine r1.out.mono ?_
        rintro e w8 ⟨rfl, rfl⟩
        go_wp2_with fail
        refine r2.out.mono ?_
        rintro e w9 ⟨rfl, rfl⟩
        clear r1 r2
        go_wp2_with fail
        go_roundw
        case rel => exact ⟨k + 1, HLT.out, by go_num, by rw [HN2.out]; exact HW.out, HG.out⟩
        case measure => exact HM.out
      case true.true.false =>
        have HN2 := Lib.hid (HNK.out rfl)
        clear HYK HNK
        go_wp2_with fail
        refine r1.out.mono ?_
        rintro e w8 ⟨rfl, rfl⟩
        go_wp2_with fail
        refine r2.out.mono ?_
        rintro e w9 ⟨rfl, rfl⟩
        clear r1 r2
        go_wp2_with fail
        go_roundw
        case rel => exact ⟨k + 1, HLT.out, by go_num, by rw [HN2.out]; exact HW.out, HG.out⟩
        case measure => exact HM.out
      case true.true.true =>
        have HY2 := Lib.hid (HYK.out rfl)
        clear HYK HNK
        go_wp2_with fail
        refine r1.out.mono ?_
        rintro e w8 ⟨rfl, rfl⟩
        go_wp2_with fail
        refine r2.out.mono ?_
        rintro e w9 ⟨rfl, rfl⟩
        clear r1 r2
        go_wp2_with (at_builtin; refine wpList_append_int (w := w9.alloc _) rfl _ _ rfl w.heap.size _ (P k) rfl ?y1 w9.heap.size 1 (k : Int) rfl ?y2 ?y3 ?y4 ?_)
        case y1 => exact HW.out.alloc _
        case y2 => exact cell_new _ _ _
        case y3 => omega
        case y4 => simp; omega
        intro v2 w2 hown2 _ hb2
        have HW2 := Lib.hid (OwnE.cast HY2.out.symm hown2)
        have HB2 := Lib.hid ((HG.out.alloc hsz _).trans hb2)
        clear hown2 hb2
        go_wp2_with fail
        go_roundw
        case rel => exact ⟨k + 1, HLT.out, by go_num, HW2.out, HB2.out⟩
        case measure => exact HM.out
    · have e : k = n := by omega
      subst e
      clear hown hbel
      go_wp2_with fail
      go_ret
      exact ⟨_, rfl, HW.out, HG.out⟩

set_option maxHeartbeats 1000000 in
theorem same7_any (a b : Mo) (An : Option Addr) (cn : Nat) (Ae : Option Addr) (ce : Nat) (Bn : Option Addr) (dn : Nat) (Be : Option Addr) (de : Nat) (w : World) (l1 : a.ns.length ≤ maxLen) (l2 : a.es.length ≤ maxLen)
    (ha : Ints w w.heap.size An a.ns) (ha2 : Ints w w.heap.size Ae a.es) (hb : Ints w w.heap.size Bn b.ns) (hb2 : Ints w w.heap.size Be b.es) :
    Calls Tryz.prog 20 #[gval An a.ns.length cn Ae a.es.length ce, gval Bn b.ns.length dn Be b.es.length de] w fun e w' => e = .returned (.bool (decide (a = b))) ∧ Below w.heap.size w w' := by
  have HB0 : Hid (∀ o o', Below w.heap.size w ((w.alloc o).alloc o')) := Lib.hid fun o o' => ((Below.refl _ _).alloc (Nat.le_refl _) _).alloc (by simp) _
  have H1 := Lib.hid (fun u (hu : Below w.heap.size w u) => sameInts_any a.ns b.ns An Bn w.heap.size w.heap.size cn dn u l1 (Reads.below ha hu) (Reads.below hb hu))
  have H2 := Lib.hid (fun u (hu : Below w.heap.size w u) => sameInts_any a.es b.es Ae Be w.heap.size w.heap.size ce de u l2 (Reads.below ha2 hu) (Reads.below hb2 hu))
  have HX := Lib.hid (mo_eq a b)
  clear ha hb ha2 hb2
  generalize decide (a = b) = z at HX ⊢
  generalize decide (a.ns = b.ns) = z1 at H1 HX
  generalize decide (a.es = b.es) = z2 at H2 HX
  go_enter Tryz.func20, Tryz.ntmps20
  go_wp2_with fail
  refine (H1.out _ (HB0.out _ _)).mono ?_
  rintro e w1 ⟨rfl, hb1⟩
  obtain ⟨b0, b1, hsz⟩ := boxes2 hb1
  obtain ⟨c0, c1⟩ := cell2 b0
  obtain ⟨c2, c3⟩ := cell2 b1
  have HB := Lib.hid ((HB0.out _ _).trans (hb1.mono (by simp; omega)))
  clear b0 b1 hb1
  cases z1
  · go_wp2_with fail
    go_ret
    exact ⟨ret_bool (by rw [HX.out]; rfl), HB.out⟩
  · go_wp2_with fail
    refine (H2.out _ HB.out).mono ?_
    rintro e w2 ⟨rfl, hb2⟩
    have HB2 := Lib.hid (HB.out.trans (hb2.mono (by omega)))
    clear hb2
    go_wp2_with fail
    go_ret
    exact ⟨ret_bool (by rw [HX.out]; rfl), HB2.out⟩

set_option maxHeartbeats 1000000 in
theorem few7_any (m : Mo) (n : Nat) (Mn : Option Addr) (mn : Nat) (Me : Option Addr) (me : Nat) (w : World) (h1 : m.ns.length ≤ 1152921504606846976) (h2 : m.es.length ≤ 1152921504606846976) :
    Calls Tryz.prog 24 #[gval Mn m.ns.length mn Me m.es.length me, .int .i64 (n : Int)] w fun e w' => e = .returned (.bool (fewM m n)) ∧ Below w.heap.size w w' := by
  have HW : Hid (decide ((m.ns.length : Int) + (m.es.length : Int) ≤ (n : Int)) = fewM m n) := by
    unfold fewM
    exact Lib.hid (by by_cases h : m.ns.length + m.es.length ≤ n
                      · rw [decide_eq_true h]; exact decide_eq_true (by omega)
                      · rw [decide_eq_false h]; exact decide_eq_false (by omega))
  generalize fewM m n = R at *
  go_enter Tryz.func24, Tryz.ntmps24
  go_wp2_with fail
  go_ret
  exact ⟨ret_bool HW.out, (Below.refl _ _).alloc (Nat.le_refl _) _⟩

theorem fstD_drop {a b : List Int} {k : Nat} (h : k < a.length) (h2 : k < b.length) : fstD (a.drop k) (b.drop k) = if a.getD k 0 ≠ b.getD k 0 then a.getD k 0 - b.getD k 0 else fstD (a.drop (k + 1)) (b.drop (k + 1)) := by
  rw [List.drop_eq_getElem_cons h, List.drop_eq_getElem_cons h2]
  simp only [fstD]
  rw [List.getD_eq_getElem?_getD, List.getD_eq_getElem?_getD, List.getElem?_eq_getElem h, List.getElem?_eq_getElem h2]
  rfl
theorem fstD_end {a b : List Int} {k : Nat} (h : a.length ≤ k) : fstD (a.drop k) (b.drop k) = 0 := by
  rw [List.drop_eq_nil_of_le h]; rfl

end Go.Proofs.YthnhacncnhknnaaGreatDoor

/-
  Parts of graphs, the reference: Right, Valid, both.
-/
namespace Go.Proofs.YthnhacncnhknnaaGreatDoor
open Go.RowKit Go.Shelf

/-- a box of three cells -/
def BX3 (g : Nat) (a b c : Value) (t : TypeId) (W : World) : Prop := W.heap[g]? = some (.cells #[a, b, c] t (0, 0))
theorem BX3.cells {g : Nat} {a b c : Value} {t : TypeId} {W : World} (h : BX3 g a b c t W) : W.cell? ⟨g, 0, none⟩ = some a ∧ W.cell? ⟨g, 1, none⟩ = some b ∧ W.cell? ⟨g, 2, none⟩ = some c :=
  ⟨cell_of_row _ _ 0 _ _ _ h, cell_of_row _ _ 1 _ _ _ h, cell_of_row _ _ 2 _ _ _ h⟩
theorem BX3.up {g : Nat} {a b c : Value} {t : TypeId} {W W' : World} (h : BX3 g a b c t W) (hb : Below W.heap.size W W') : BX3 g a b c t W' := heap_up hb h
theorem pd_hit {g : Gr} {p : Mo} {k : Nat} (h : ¬ ((g.es.getD (p.es.getD k 0).toNat default).fr ∈ p.ns ∧ (g.es.getD (p.es.getD k 0).toNat default).tq ∈ p.ns)) : pdAt g p k = 14 := if_neg h
theorem pd_pass {g : Gr} {p : Mo} {k : Nat} (h : (g.es.getD (p.es.getD k 0).toNat default).fr ∈ p.ns ∧ (g.es.getD (p.es.getD k 0).toNat default).tq ∈ p.ns) : pdAt g p k = 0 := if_pos h

set_option maxRecDepth 100000 in
set_option maxHeartbeats 4000000 in
theorem right7_any (g : Gr) (p : Mo) (An : Option Addr) (cn : Nat) (Ae : Option Addr) (ce : Nat) (Pn : Option Addr) (pn : Nat) (Pe : Option Addr) (pe : Nat) (w : World) (hg : GrAt w An cn Ae ce g) (hp : PtAt w Pn Pe p) :
    Calls Tryz.prog 38 #[gval An g.ns.length cn Ae g.es.length ce, gval Pn p.ns.length pn Pe p.es.length pe] w fun e w' => e = .returned (.int .i64 (rightE g p : Nat)) ∧ Below w.heap.size w w' := by
  have hS0 : SR w _ ((w.alloc (.cells #[.slice An g.ns.length cn, .slice Ae g.es.length ce] 25)).alloc (.cells #[.slice Pn p.ns.length pn, .slice Pe p.es.length pe] 27)) := SR.push (SR.push (SR.nil w) rfl _ _ _) (by simp) _ _ _
  have HA1 := Lib.hid (fun (u : World) (hu : Below w.heap.size w u) => (asc7_any p.ns g.ns.length Pn u.heap.size pn u (by have := hp.ln; unfold maxLen; omega) (Reads.up hp.ns hu)).mono (fun e w' h => show e = .returned (.int .i64 (ascE p.ns g.ns.length)) ∧ Below u.heap.size u w' from ⟨h.1, by obtain ⟨q, rfl⟩ := h.2; exact below_draws (Below.refl _ _) q⟩))
  have HA2 := Lib.hid (fun (u : World) (hu : Below w.heap.size w u) => (asc7_any p.es g.es.length Pe u.heap.size pe u (by have := hp.le; unfold maxLen; omega) (Reads.up hp.es hu)).mono (fun e w' h => show e = .returned (.int .i64 (ascE p.es g.es.length)) ∧ Below u.heap.size u w' from ⟨h.1, by obtain ⟨q, rfl⟩ := h.2; exact below_draws (Below.refl _ _) q⟩))
  have HHS := Lib.hid (fun (x : Int) (u : World) (hu : Below w.heap.size w u) => has7_any p.ns x Pn u.heap.size pn u (by have := hp.ln; unfold maxLen; omega) (Reads.up hp.ns hu))
  have HPE := Lib.hid (fun (u : World) (hu : Below w.heap.size w u) => Reads.up hp.es hu)
  have HGE := Lib.hid (fun (u : World) (hu : Below w.heap.size w u) => Reads.up hg.es hu)
  have HX : Hid (rightE g p = if ascE p.ns g.ns.length ≠ 0 then ascE p.ns g.ns.length else if ascE p.es g.es.length ≠ 0 then ascE p.es g.es.length else fstN (pdAt g p) 0 (p.es.length - 0)) := Lib.hid rfl
  have HZ : Hid (ascE p.es g.es.length = 0 → ∀ x ∈ p.es, 0 ≤ x ∧ x < g.es.length) := Lib.hid fun h => (asc_zero h).1
  have HHIT := Lib.hid (fun k (h : k < p.es.length) hf => fstN_hit (f := pdAt g p) h hf)
  have HPASS := Lib.hid (fun k (h : k < p.es.length) hf => fstN_pass (f := pdAt g p) h hf)
  have HEND := Lib.hid (fun k (h : p.es.length ≤ k) => fstN_end (f := pdAt g p) h)
  have HD1 := Lib.hid (fun k h => pd_hit (g := g) (p := p) (k := k) h)
  have HD0 := Lib.hid (fun k h => pd_pass (g := g) (p := p) (k := k) h)
  have HLL : Hid (p.ns.length ≤ 1000 ∧ p.es.length ≤ 1000) := Lib.hid ⟨hp.ln, hp.le⟩
  have HS0 := Lib.hid hS0
  clear hg hp hS0
  generalize rightE g p = R at HX ⊢
  generalize ascE p.ns g.ns.length = e1 at *
  generalize ascE p.es g.es.length = e2 at *
  generalize pdAt g p = F at *
  go_enter Tryz.func38, Tryz.ntmps38
  go_wp2_with fail
  refine (HA1.out _ HS0.out.1).mono ?_
  rintro e w1 ⟨rfl, hb1⟩
  have HS1 := Lib.hid (HS0.out.up hb1)
  clear hb1 HS0 HA1
  obtain ⟨c0, c1⟩ := HS1.out.cell (i := 0) rfl
  obtain ⟨c2, c3⟩ := HS1.out.cell (i := 1) rfl
  simp only [Nat.add_zero] at c0 c1
  by_cases h1 : e1 = 0
  case neg =>
    have HR := Lib.hid (show R = e1 by rw [HX.out, if_pos h1])
    have t1 : ((e1 : Int) != 0) = true := by simp; omega
    clear h1
    go_wp2_with fail
    go_ret
    exact ⟨ret_int (by rw [HR.out]), HS1.out.1⟩
  have HX2 := Lib.hid (show R = if e2 ≠ 0 then e2 else fstN F 0 (p.es.length - 0) by rw [HX.out, if_neg (by omega)])
  have t1 : ((e1 : Int) != 0) = false := by simp; omega
  clear h1 HX
  go_wp2_with fail
  refine (HA2.out _ HS1.out.1).mono ?_
  rintro e w2 ⟨rfl, hb2⟩
  have HS2 := Lib.hid (HS1.out.up hb2)
  clear hb2 HS1 HA2 c0 c1 c2 c3 t1
  obtain ⟨c0, c1⟩ := HS2.out.cell (i := 0) rfl
  obtain ⟨c2, c3⟩ := HS2.out.cell (i := 1) rfl
  simp only [Nat.add_zero] at c0 c1
  by_cases h2 : e2 = 0
  case neg =>
    have HR := Lib.hid (show R = e2 by rw [HX2.out, if_pos h2])
    have t1 : ((e2 : Int) != 0) = true := by simp; omega
    clear h2
    go_wp2_with fail
    go_ret
    exact ⟨ret_int (by rw [HR.out]), HS2.out.1⟩
  have HX3 := Lib.hid (show R = fstN F 0 (p.es.length - 0) by rw [HX2.out, if_neg (by omega)])
  have HZ2 := Lib.hid (HZ.out h2)
  have t1 : ((e2 : Int) != 0) = false := by simp; omega
  clear h2 HX2 HZ
  go_wp2_with fail
  clear t1 c0 c1 c2 c3
  go_loopw [7] (fun v wr => ∃ k : Nat, k ≤ p.es.length ∧ v = .int .i64 (k : Int) ∧ SR w [(.slice An g.ns.length cn, .slice Ae g.es.length ce, 25), (.slice Pn p.ns.length pn, .slice Pe p.es.length pe, 27)] wr ∧ R = fstN F k (p.es.length - k)) (fun v _ => p.es.length - (intOf v).toNat)
  case atStart => exact ⟨0, Nat.zero_le _, rfl, HS2.out, HX3.out⟩
  case round =>
    clear HX3 HS2
    obtain ⟨k, hk, rfl, hsr, hr⟩ := hrel
    have HS := Lib.hid hsr
    have HR := Lib.hid hr
    clear hsr hr
    obtain ⟨c0, c1⟩ := HS.out.cell (i := 0) rfl
    obtain ⟨c2, c3⟩ := HS.out.cell (i := 1) rfl
    simp only [Nat.add_zero] at c0 c1
    by_cases hlt : k < p.es.length
    · obtain ⟨b, off, hPe, hb, hc⟩ := Ints.cells (HPE.out _ HS.out.1) hlt
      have ck := hc k hlt
      have hx := HZ2.out _ (getD_mem (d := (0 : Int)) hlt)
      obtain ⟨q, hq⟩ : ∃ q : Nat, p.es.getD k 0 = (q : Int) := ⟨(p.es.getD k 0).toNat, by omega⟩
      have HDK1 := Lib.hid (HD1.out k)
      have HDK0 := Lib.hid (HD0.out k)
      have HHK := Lib.hid (HHIT.out k hlt)
      have HPK := Lib.hid (HPASS.out k hlt)
      rw [hq] at ck hx HDK1 HDK0
      rw [Int.toNat_natCast] at HDK1 HDK0
      have hqk : q < g.es.length := by omega
      obtain ⟨b2, off2, hAe, hb2, hd⟩ := Eds.cells (HGE.out _ HS.out.1) hqk
      obtain ⟨d0, d1, d2⟩ := hd q hqk
      subst hPe hAe
      have i0 : (0 : Int) ≤ (k : Int) := by omega
      have i1 : (k : Int) < (p.es.length : Int) := by omega
      have i3 : p.es.length ≤ 1000 := HLL.out.2
      have i2 : ((k : Int)).toNat = k := by omega
      have j0 : (0 : Int) ≤ (q : Int) := by omega
      have j1 : (q : Int) < (g.es.length : Int) := by omega
      have j2 : ((q : Int)).toNat = q := by omega
      have HLT := Lib.hid hlt
      have HM : Hid (p.es.length - ((k : Int) + 1).toNat < p.es.length - ((k : Int)).toNat) := Lib.hid (by omega)
      generalize g.es.getD q default = y at *
      obtain ⟨ty, fr, tt⟩ := y
      dsimp only at d0 d1 d2 HDK1 HDK0
      clear hc hd hx hq hlt
      go_upto_region 10 with fail
      go_cut [8] (fun u wx => ∃ gx : Nat, u = .pointer (some ⟨gx, 0, none⟩) ∧ BX3 gx (.int .i64 ty) (.int .i64 fr) (.int .i64 tt) 58 wx ∧ Below wr.heap.size wr wx)
      case first =>
        go_wp2_with fail
        have HM : Hid (∀ u, Below wr.drew.heap.size wr.drew u → (fun u : World => u.cell? ⟨w.heap.size, 1, none⟩ = some (.slice (some ⟨b2, off2, none⟩) g.es.length ce) ∧ u.cell? ⟨w.heap.size + 1, 1, none⟩ = some (.slice (some ⟨b, off, none⟩) p.es.length pe) ∧ u.cell? ⟨b, off + k, none⟩ = some (.int .i64 (q : Int)) ∧ u.cell? ⟨b2, off2 + q * 3, none⟩ = some (.int .i64 ty) ∧ u.cell? ⟨b2, off2 + q * 3 + 1, none⟩ = some (.int .i64 fr) ∧ u.cell? ⟨b2, off2 + q * 3 + 2, none⟩ = some (.int .i64 tt)) u) := Lib.hid fun u hu => ⟨cell_up hu c1, cell_up hu c3, cell_up hu ck, cell_up hu d0, cell_up hu d1, cell_up hu d2⟩
        have HVD := Lib.hid (below_d wr)
        have WD0 := Lib.hid (Below.refl wr.drew.heap.size wr.drew)
        clear c0 c1 c2 c3 ck d0 d1 d2
        refine wp_region_noPanic ?_
        refine wp_region_held_drew (S := (fun u : World => u.cell? ⟨w.heap.size, 1, none⟩ = some (.slice (some ⟨b2, off2, none⟩) g.es.length ce) ∧ u.cell? ⟨w.heap.size + 1, 1, none⟩ = some (.slice (some ⟨b, off, none⟩) p.es.length pe) ∧ u.cell? ⟨b, off + k, none⟩ = some (.int .i64 (q : Int)) ∧ u.cell? ⟨b2, off2 + q * 3, none⟩ = some (.int .i64 ty) ∧ u.cell? ⟨b2, off2 + q * 3 + 1, none⟩ = some (.int .i64 fr) ∧ u.cell? ⟨b2, off2 + q * 3 + 2, none⟩ = some (.int .i64 tt))) (by kernel_rfl) (HM.out _ WD0.out) (fun hHeld => ?_)
        generalize wr.drew = wd at *
        refine wpAnyH_take (i := 0) (v := ?_) (oper_at (r := _) rfl) (by kernel_rfl) (by kernel_rfl) (by kernel_rfl) (fun _ _ _ h => h) (Or.inl ⟨by rfl, ?_⟩) (by assumption) ?_
        rotate_left
        · intro w hSw; try dsimp only at hSw
          go_simp
          try with_reducible rfl
        try simp only [Act.put, List.setIfInBounds_toArray, List.set_cons_zero, List.set_cons_succ]
        refine wpAnyH_take (i := 1) (v := ?_) (oper_at (r := _) rfl) (by kernel_rfl) (by kernel_rfl) (by kernel_rfl) (fun _ _ _ h => h) (Or.inl ⟨by rfl, ?_⟩) (by assumption) ?_
        rotate_left
        · intro w hSw; try dsimp only at hSw
          go_simp
          try with_reducible rfl
        try simp only [Act.put, List.setIfInBounds_toArray, List.set_cons_zero, List.set_cons_succ]
        refine wpAnyH_take (i := 2) (v := ?_) (oper_at (r := _) rfl) (by kernel_rfl) (by kernel_rfl) (by kernel_rfl) (fun _ _ _ h => h) (Or.inl ⟨by rfl, ?_⟩) (by assumption) ?_
        rotate_left
        · intro w hSw; try dsimp only at hSw
          go_simp
          try with_reducible rfl
        try simp only [Act.put, List.setIfInBounds_toArray, List.set_cons_zero, List.set_cons_succ]
        refine wpAnyH_take (i := 3) (v := ?_) (oper_at (r := _) rfl) (by kernel_rfl) (by kernel_rfl) (by kernel_rfl) (fun _ _ _ h => h) (Or.inl ⟨by rfl, ?_⟩) (by assumption) ?_
        rotate_left
        · intro w hSw; try dsimp only at hSw
          go_simp
          try with_reducible rfl
        try simp only [Act.put, List.setIfInBounds_toArray, List.set_cons_zero, List.set_cons_succ]
        refine wpAnyH_take (i := 4) (v := ?_) (oper_at (r := _) rfl) (by kernel_rfl) (by kernel_rfl) (by kernel_rfl) (fun _ _ _ h => h) (Or.inl ⟨by rfl, ?_⟩) (by assumption) ?_
        rotate_left
        · intro w hSw; try dsimp only at hSw
          go_simp
          try with_reducible rfl
        try simp only [Act.put, List.setIfInBounds_toArray, List.set_cons_zero, List.set_cons_succ]
        refine wpAnyH_take (i := 5) (v := ?_) (oper_at (r := _) rfl) (by kernel_rfl) (by kernel_rfl) (by kernel_rfl) (fun _ _ _ h => h) (Or.inl ⟨by rfl, ?_⟩) (by assumption) ?_
        rotate_left
        · intro w hSw; try dsimp only at hSw
          go_simp
          try with_reducible rfl
        try simp only [Act.put, List.setIfInBounds_toArray, List.set_cons_zero, List.set_cons_succ]
        refine wpAnyH_take (i := 6) (v := ?_) (oper_at (r := _) rfl) (by kernel_rfl) (by kernel_rfl) (by kernel_rfl) (fun _ _ _ h => h) (Or.inl ⟨by rfl, ?_⟩) (by assumption) ?_
        rotate_left
        · intro w hSw; try dsimp only at hSw
          go_simp
          try with_reducible rfl
        try simp only [Act.put, List.setIfInBounds_toArray, List.set_cons_zero, List.set_cons_succ]
        refine wpAnyH_take (i := 7) (v := ?_) (oper_at (r := _) rfl) (by kernel_rfl) (by kernel_rfl) (by kernel_rfl) (fun _ _ _ h => h) (Or.inl ⟨by rfl, ?_⟩) (by assumption) ?_
        rotate_left
        · intro w hSw; try dsimp only at hSw
          go_simp
          try with_reducible rfl
        try simp only [Act.put, List.setIfInBounds_toArray, List.set_cons_zero, List.set_cons_succ]
        refine wpAnyH_take (i := 8) (v := ?_) (oper_at (r := _) rfl) (by kernel_rfl) (by kernel_rfl) (by kernel_rfl) (fun _ _ _ h => h) (Or.inl ⟨by rfl, ?_⟩) (by assumption) ?_
        rotate_left
        · intro w hSw; try dsimp only at hSw
          go_simp
          try with_reducible rfl
        try simp only [Act.put, List.setIfInBounds_toArray, List.set_cons_zero, List.set_cons_succ]
        refine wpAnyH_ready (rs := [9]) (by kernel_rfl) (by simp) ?_
        refine AllReadyH.cons (oper_at (r := _) rfl) (fun K hK => ?_) AllReadyH.nil
        have hx : BX3 wd.heap.size (.int .i64 0) (.int .i64 0) (.int .i64 0) 58 (wd.alloc (.cells #[.int .i64 0, .int .i64 0, .int .i64 0] 58)) := heap_alloc_new _ _
        have hb : Below wd.heap.size wd (wd.alloc (.cells #[.int .i64 0, .int .i64 0, .int .i64 0] 58)) := (Below.refl _ _).alloc (Nat.le_refl _) _
        have HX1 := Lib.hid hx
        have HB1 := Lib.hid hb
        clear hx hb
        go_simp
        refine hK.out _ _ (HM.out _ HB1.out) (fun _ => ?_)
        clear hK K
        try simp only [Act.put, List.setIfInBounds_toArray, List.set_cons_zero, List.set_cons_succ]
        generalize wd.alloc (.cells #[.int .i64 0, .int .i64 0, .int .i64 0] 58) = u1 at *
        obtain ⟨gx, hgx⟩ : ∃ g, g = wd.heap.size := ⟨_, rfl⟩
        have hlg : wd.heap.size ≤ gx := by omega
        have HLG := Lib.hid hlg
        rw [← hgx] at HX1
        rw [← hgx]
        clear hgx hlg
        refine wpAnyH_ready (rs := [10]) (by kernel_rfl) (by simp) ?_
        refine AllReadyH.cons (oper_at (r := _) rfl) (fun K hK => ?_) AllReadyH.nil
        have fr0 : u1.frozen? ⟨gx, 0, none⟩ = false := frozen_of_row _ _ _ _ _ HX1.out
        have fr1 : u1.frozen? ⟨gx, 1, none⟩ = false := frozen_of_row _ _ _ _ _ HX1.out
        have fr2 : u1.frozen? ⟨gx, 2, none⟩ = false := frozen_of_row _ _ _ _ _ HX1.out
        obtain ⟨y0, y1, y2⟩ := HX1.out.cells
        go_simp
        clear fr0 fr1 fr2 y0 y1 y2
        have hx : BX3 gx (.int .i64 ty) (.int .i64 fr) (.int .i64 tt) 58 (((u1.setCell ⟨gx, 0, none⟩ (.int .i64 ty)).setCell ⟨gx, 1, none⟩ (.int .i64 fr)).setCell ⟨gx, 2, none⟩ (.int .i64 tt)) := heap_setCell_same _ gx 2 _ _ _ (heap_setCell_same _ gx 1 _ _ _ (heap_setCell_same _ gx 0 _ _ _ HX1.out))
        have hb : Below wd.heap.size wd (((u1.setCell ⟨gx, 0, none⟩ (.int .i64 ty)).setCell ⟨gx, 1, none⟩ (.int .i64 fr)).setCell ⟨gx, 2, none⟩ (.int .i64 tt)) := ((HB1.out.setCell (p := ⟨gx, 0, none⟩) HLG.out _).setCell (p := ⟨gx, 1, none⟩) HLG.out _).setCell (p := ⟨gx, 2, none⟩) HLG.out _
        have HX2 := Lib.hid hx
        have HB2 := Lib.hid hb
        clear hx hb
        refine hK.out _ _ (HM.out _ HB2.out) (fun _ => ?_)
        clear hK K
        try simp only [Act.put, List.setIfInBounds_toArray, List.set_cons_zero, List.set_cons_succ]
        refine wpAnyH_done (by kernel_rfl) ?_ _
        refine NoPanic.normal ?_
        go_wp2_with fail
        go_meet
        exact ⟨gx, rfl, HX2.out, HVD.out.trans (HB2.out.mono HVD.out.size)⟩
      case rest =>
        obtain ⟨gx, rfl, hx, hb⟩ := hcut
        have HSX := Lib.hid (HS.out.up hb)
        obtain ⟨x0, x1, x2⟩ := hx.cells
        clear c0 c1 c2 c3 ck d0 d1 d2 hb
        obtain ⟨c2, c3⟩ := HSX.out.cell (i := 1) rfl
        have HQ1 := Lib.hid (HHS.out fr wc HSX.out.1)
        have HQ2 := Lib.hid (HHS.out tt wc HSX.out.1)
        have HY : Hid (decide (fr ∈ p.ns) = true → decide (tt ∈ p.ns) = true → R = fstN F (k + 1) (p.es.length - (k + 1))) := Lib.hid fun h1 h2 => by rw [HR.out, HPK.out (HDK0.out ⟨of_decide_eq_true h1, of_decide_eq_true h2⟩)]
        have HN1 : Hid (decide (fr ∈ p.ns) = false → R = 14) := Lib.hid fun h1 => by
          have e := HDK1.out fun h => of_decide_eq_false h1 h.1
          rw [HR.out, HHK.out (by rw [e]; omega), e]
        have HN2 : Hid (decide (tt ∈ p.ns) = false → R = 14) := Lib.hid fun h1 => by
          have e := HDK1.out fun h => of_decide_eq_false h1 h.2
          rw [HR.out, HHK.out (by rw [e]; omega), e]
        generalize decide (fr ∈ p.ns) = z1 at *
        generalize decide (tt ∈ p.ns) = z2 at *
        clear hx
        cases z1
        case false =>
          have HE := Lib.hid (HN1.out rfl)
          clear HN1 HN2 HY
          go_wp2_with fail
          refine HQ1.out.mono ?_
          rintro e w8 ⟨rfl, rfl⟩
          go_wp2_with fail
          go_ret
          exact ⟨ret_int (by rw [HE.out]; rfl), HSX.out.1⟩
        case true =>
          cases z2
          case false =>
            have HE := Lib.hid (HN2.out rfl)
            clear HN1 HN2 HY
            go_wp2_with fail
            refine HQ1.out.mono ?_
            rintro e w8 ⟨rfl, rfl⟩
            go_wp2_with fail
            refine HQ2.out.mono ?_
            rintro e w9 ⟨rfl, rfl⟩
            go_wp2_with fail
            go_ret
            exact ⟨ret_int (by rw [HE.out]; rfl), HSX.out.1⟩
          case true =>
            have HE := Lib.hid (HY.out rfl rfl)
            clear HN1 HN2 HY
            go_wp2_with fail
            refine HQ1.out.mono ?_
            rintro e w8 ⟨rfl, rfl⟩
            go_wp2_with fail
            refine HQ2.out.mono ?_
            rintro e w9 ⟨rfl, rfl⟩
            go_wp2_with fail
            go_roundw
            case rel => exact ⟨k + 1, HLT.out, by go_num, HSX.out, HE.out⟩
            case measure => exact HM.out
    · have HN : Hid (R = 0) := Lib.hid (by rw [HR.out]; exact HEND.out k (by omega))
      go_wp2_with fail
      go_ret
      exact ⟨ret_int (by rw [HN.out]; rfl), HS.out.1⟩

def BelowRet (E : Nat) (w : World) (e : Ending) (w' : World) : Prop := e = .returned (.int .i64 (E : Int)) ∧ Below w.heap.size w w'
set_option maxRecDepth 100000 in
set_option maxHeartbeats 4000000 in
theorem valid7_any : ValidC 13 := by
  intro g p An cn Ae ce Pn pn Pe pe w hg hp
  have hS0 : SR w _ ((w.alloc (.cells #[.slice An g.ns.length cn, .slice Ae g.es.length ce] 25)).alloc (.cells #[.slice Pn p.ns.length pn, .slice Pe p.es.length pe] 27)) := SR.push (SR.push (SR.nil w) rfl _ _ _) (by simp) _ _ _
  have HV := Lib.hid (fun (u : World) (hu : Below w.heap.size w u) => validR_any g An cn Ae ce u (hg.up hu))
  have HR := Lib.hid (fun (u : World) (hu : Below w.heap.size w u) => right7_any g p An cn Ae ce Pn pn Pe pe u (hg.up hu) (hp.up hu))
  have HX : Hid (partE g p = if validE g ≠ 0 then validE g else rightE g p) := Lib.hid rfl
  have HS0 := Lib.hid hS0
  clear hg hp hS0
  generalize partE g p = R at *
  generalize validE g = v at *
  generalize rightE g p = r at *
  go_enter Tryz.func13, Tryz.ntmps13
  obtain ⟨c0, c1⟩ := HS0.out.cell (i := 0) rfl
  obtain ⟨c2, c3⟩ := HS0.out.cell (i := 1) rfl
  simp only [Nat.add_zero] at c0 c1
  go_wp2_with fail
  refine (HV.out _ HS0.out.1).mono ?_
  rintro e w1 ⟨rfl, hb1⟩
  have HS1 := Lib.hid (HS0.out.up hb1)
  clear hb1 HS0 HV c0 c1 c2 c3
  obtain ⟨c0, c1⟩ := HS1.out.cell (i := 0) rfl
  obtain ⟨c2, c3⟩ := HS1.out.cell (i := 1) rfl
  simp only [Nat.add_zero] at c0 c1
  by_cases h1 : v = 0
  case neg =>
    have HE := Lib.hid (show R = v by rw [HX.out, if_pos h1])
    have t1 : ((v : Int) != 0) = true := by simp; omega
    clear h1
    go_wp2_with fail
    go_ret
    exact ⟨ret_int (by rw [HE.out]), HS1.out.1⟩
  have HE := Lib.hid (show R = r by rw [HX.out, if_neg (by omega)])
  have t1 : ((v : Int) != 0) = false := by simp; omega
  clear h1 HX
  go_wp2_with fail
  refine (HR.out _ HS1.out.1).mono ?_
  rintro e w2 ⟨rfl, hb2⟩
  have HB2 := Lib.hid (HS1.out.1.trans (hb2.mono HS1.out.1.size))
  clear hb2 c0 c1 c2 c3 t1
  go_wp2_with fail
  go_ret
  exact ⟨ret_int (by rw [HE.out]), HB2.out⟩

end Go.Proofs.YthnhacncnhknnaaGreatDoor

/-
  Parts of graphs, the program: Valid, checkBoth. Printed by mkg2.py.
-/
namespace Go.Proofs.YthnhacncnhknnaaGreatDoor
open Go.RowKit Go.Shelf

set_option maxRecDepth 100000 in
set_option maxHeartbeats 4000000 in
theorem validG_any : ValidC 12 := by
  intro g p An cn Ae ce Pn pn Pe pe w hg hp
  have hS0 : SR w _ ((w.alloc (.cells #[.slice An g.ns.length cn, .slice Ae g.es.length ce] 25)).alloc (.cells #[.slice Pn p.ns.length pn, .slice Pe p.es.length pe] 27)) := SR.push (SR.push (SR.nil w) rfl _ _ _) (by simp) _ _ _
  have HV := Lib.hid (fun (u : World) (hu : Below w.heap.size w u) => validP_any g An cn Ae ce u (hg.up hu))
  have HA1 := Lib.hid (fun (u : World) (hu : Below w.heap.size w u) => ascP_any p.ns g.ns.length Pn u.heap.size pn u (by have := hp.ln; unfold maxLen; omega) (Reads.up hp.ns hu))
  have HA2 := Lib.hid (fun (u : World) (hu : Below w.heap.size w u) => ascP_any p.es g.es.length Pe u.heap.size pe u (by have := hp.le; unfold maxLen; omega) (Reads.up hp.es hu))
  have HHS := Lib.hid (fun (hs : Asc p.ns) (x : Nat) (u : World) (hu : Below w.heap.size w u) => hasG_any p.ns x Pn u.heap.size pn u (by have := hp.ln; omega) (Reads.up hp.ns hu) hs)
  have HPE := Lib.hid (fun (u : World) (hu : Below w.heap.size w u) => Reads.up hp.es hu)
  have HGE := Lib.hid (fun (u : World) (hu : Below w.heap.size w u) => Reads.up hg.es hu)
  have HX : Hid (partE g p = if validE g ≠ 0 then validE g else if ascE p.ns g.ns.length ≠ 0 then ascE p.ns g.ns.length else if ascE p.es g.es.length ≠ 0 then ascE p.es g.es.length else fstN (pdAt g p) 0 (p.es.length - 0)) := Lib.hid rfl
  have HFR := Lib.hid (fun (hv : validE g = 0) (i : Nat) (hi : i < g.es.length) => fr_eq hv hi)
  have HZ1 : Hid (ascE p.ns g.ns.length = 0 → Asc p.ns) := Lib.hid fun h => (asc_zero h).2
  have HZ : Hid (ascE p.es g.es.length = 0 → ∀ x ∈ p.es, 0 ≤ x ∧ x < g.es.length) := Lib.hid fun h => (asc_zero h).1
  have HHIT := Lib.hid (fun k (h : k < p.es.length) hf => fstN_hit (f := pdAt g p) h hf)
  have HPASS := Lib.hid (fun k (h : k < p.es.length) hf => fstN_pass (f := pdAt g p) h hf)
  have HEND := Lib.hid (fun k (h : p.es.length ≤ k) => fstN_end (f := pdAt g p) h)
  have HD1 := Lib.hid (fun k h => pd_hit (g := g) (p := p) (k := k) h)
  have HD0 := Lib.hid (fun k h => pd_pass (g := g) (p := p) (k := k) h)
  have HLL : Hid (p.ns.length ≤ 1000 ∧ p.es.length ≤ 1000) := Lib.hid ⟨hp.ln, hp.le⟩
  have HS0 := Lib.hid hS0
  clear hg hp hS0
  generalize partE g p = R at HX ⊢
  generalize ascE p.ns g.ns.length = e1 at *
  generalize ascE p.es g.es.length = e2 at *
  generalize pdAt g p = F at *
  generalize validE g = e0 at *
  go_enter Tryz.func12, Tryz.ntmps12
  obtain ⟨c0, c1⟩ := HS0.out.cell (i := 0) rfl
  obtain ⟨c2, c3⟩ := HS0.out.cell (i := 1) rfl
  simp only [Nat.add_zero] at c0 c1
  go_wp2_with fail
  refine (HV.out _ HS0.out.1).mono ?_
  rintro e w0 ⟨rfl, hb0⟩
  have HS1 := Lib.hid (HS0.out.up hb0)
  clear hb0 HS0 HV c0 c1 c2 c3
  obtain ⟨c0, c1⟩ := HS1.out.cell (i := 0) rfl
  obtain ⟨c2, c3⟩ := HS1.out.cell (i := 1) rfl
  simp only [Nat.add_zero] at c0 c1
  by_cases h0 : e0 = 0
  case neg =>
    have HR := Lib.hid (show R = e0 by rw [HX.out, if_pos h0])
    have t1 : ((e0 : Int) != 0) = true := by simp; omega
    clear h0
    go_wp2_with fail
    go_ret
    exact ⟨ret_int (by rw [HR.out]), HS1.out.1⟩
  have HFR2 := Lib.hid (HFR.out h0)
  have HX1 := Lib.hid (show R = if e1 ≠ 0 then e1 else if e2 ≠ 0 then e2 else fstN F 0 (p.es.length - 0) by rw [HX.out, if_neg (by omega)])
  have t1 : ((e0 : Int) != 0) = false := by simp; omega
  clear h0 HX HFR
  go_wp2_with fail
  refine (HA1.out _ HS1.out.1).mono ?_
  rintro e w1 ⟨rfl, rfl⟩
  clear HA1
  by_cases h1 : e1 = 0
  case neg =>
    have HR := Lib.hid (show R = e1 by rw [HX1.out, if_pos h1])
    have t2 : ((e1 : Int) != 0) = true := by simp; omega
    clear h1
    go_wp2_with fail
    go_ret
    exact ⟨ret_int (by rw [HR.out]), HS1.out.1⟩
  have HX2 := Lib.hid (show R = if e2 ≠ 0 then e2 else fstN F 0 (p.es.length - 0) by rw [HX1.out, if_neg (by omega)])
  have HHS2 := Lib.hid (HHS.out (HZ1.out h1))
  have t2 : ((e1 : Int) != 0) = false := by simp; omega
  clear h1 HX1 HHS HZ1
  go_wp2_with fail
  refine (HA2.out _ HS1.out.1).mono ?_
  rintro e w2 ⟨rfl, rfl⟩
  clear HA2
  by_cases h2 : e2 = 0
  case neg =>
    have HR := Lib.hid (show R = e2 by rw [HX2.out, if_pos h2])
    have t3 : ((e2 : Int) != 0) = true := by simp; omega
    clear h2
    go_wp2_with fail
    go_ret
    exact ⟨ret_int (by rw [HR.out]), HS1.out.1⟩
  have HX3 := Lib.hid (show R = fstN F 0 (p.es.length - 0) by rw [HX2.out, if_neg (by omega)])
  have HZ2 := Lib.hid (HZ.out h2)
  have t3 : ((e2 : Int) != 0) = false := by simp; omega
  clear h2 HX2 HZ
  go_wp2_with fail
  clear t1 t2 t3 c0 c1 c2 c3
  go_loopw [36] (fun v wr => ∃ k : Nat, k ≤ p.es.length ∧ v = .int .i64 (k : Int) ∧ SR w [(.slice An g.ns.length cn, .slice Ae g.es.length ce, 25), (.slice Pn p.ns.length pn, .slice Pe p.es.length pe, 27)] wr ∧ R = fstN F k (p.es.length - k)) (fun v _ => p.es.length - (intOf v).toNat)
  case atStart => exact ⟨0, Nat.zero_le _, rfl, HS1.out, HX3.out⟩
  case round =>
    clear HX3 HS1
    obtain ⟨k, hk, rfl, hsr, hr⟩ := hrel
    have HS := Lib.hid hsr
    have HR := Lib.hid hr
    clear hsr hr
    obtain ⟨c0, c1⟩ := HS.out.cell (i := 0) rfl
    obtain ⟨c2, c3⟩ := HS.out.cell (i := 1) rfl
    simp only [Nat.add_zero] at c0 c1
    by_cases hlt : k < p.es.length
    · obtain ⟨b, off, hPe, hb, hc⟩ := Ints.cells (HPE.out _ HS.out.1) hlt
      have ck := hc k hlt
      have hx := HZ2.out _ (getD_mem (d := (0 : Int)) hlt)
      obtain ⟨q, hq⟩ : ∃ q : Nat, p.es.getD k 0 = (q : Int) := ⟨(p.es.getD k 0).toNat, by omega⟩
      have HDK1 := Lib.hid (HD1.out k)
      have HDK0 := Lib.hid (HD0.out k)
      have HHK := Lib.hid (HHIT.out k hlt)
      have HPK := Lib.hid (HPASS.out k hlt)
      rw [hq] at ck hx HDK1 HDK0
      rw [Int.toNat_natCast] at HDK1 HDK0
      have hqk : q < g.es.length := by omega
      obtain ⟨b2, off2, hAe, hb2, hd⟩ := Eds.cells (HGE.out _ HS.out.1) hqk
      obtain ⟨d0, d1, d2⟩ := hd q hqk
      obtain ⟨f1, _, f2, _⟩ := HFR2.out q hqk
      subst hPe hAe
      have i0 : (0 : Int) ≤ (k : Int) := by omega
      have i1 : (k : Int) < (p.es.length : Int) := by omega
      have i3 : p.es.length ≤ 1000 := HLL.out.2
      have i2 : ((k : Int)).toNat = k := by omega
      have j0 : (0 : Int) ≤ (q : Int) := by omega
      have j1 : (q : Int) < (g.es.length : Int) := by omega
      have j2 : ((q : Int)).toNat = q := by omega
      have HLT := Lib.hid hlt
      have HM : Hid (p.es.length - ((k : Int) + 1).toNat < p.es.length - ((k : Int)).toNat) := Lib.hid (by omega)
      rw [f1] at d1 HDK1 HDK0
      rw [f2] at d2 HDK1 HDK0
      generalize frN g q = fr at *
      generalize toN g q = tt at *
      clear hc hd hx hq hlt f1 f2 d0
      have HQ1 := Lib.hid (HHS2.out fr)
      have HQ2 := Lib.hid (HHS2.out tt)
      have HY : Hid (decide ((fr : Int) ∈ p.ns) = true → decide ((tt : Int) ∈ p.ns) = true → R = fstN F (k + 1) (p.es.length - (k + 1))) := Lib.hid fun h1 h2 => by rw [HR.out, HPK.out (HDK0.out ⟨of_decide_eq_true h1, of_decide_eq_true h2⟩)]
      have HN1 : Hid (decide ((fr : Int) ∈ p.ns) = false → R = 14) := Lib.hid fun h1 => by
        have e := HDK1.out fun h => of_decide_eq_false h1 h.1
        rw [HR.out, HHK.out (by rw [e]; omega), e]
      have HN2 : Hid (decide ((tt : Int) ∈ p.ns) = false → R = 14) := Lib.hid fun h1 => by
        have e := HDK1.out fun h => of_decide_eq_false h1 h.2
        rw [HR.out, HHK.out (by rw [e]; omega), e]
      generalize decide ((fr : Int) ∈ p.ns) = z1 at *
      generalize decide ((tt : Int) ∈ p.ns) = z2 at *
      clear HDK1 HDK0 HHK HPK HR
      go_wp2_with fail
      have HMM : Hid (∀ u, Below wr.drew.heap.size wr.drew u → (fun u : World => u.cell? ⟨w.heap.size, 1, none⟩ = some (.slice (some ⟨b2, off2, none⟩) g.es.length ce) ∧ u.cell? ⟨w.heap.size + 1, 0, none⟩ = some (.slice Pn p.ns.length pn) ∧ u.cell? ⟨b2, off2 + q * 3 + 1, none⟩ = some (.int .i64 (fr : Int)) ∧ u.cell? ⟨b2, off2 + q * 3 + 2, none⟩ = some (.int .i64 (tt : Int))) u) := Lib.hid fun u hu => ⟨cell_up hu c1, cell_up hu c2, cell_up hu d1, cell_up hu d2⟩
      have HSD := Lib.hid (HS.out.up (below_d wr))
      have WD0 := Lib.hid (Below.refl wr.drew.heap.size wr.drew)
      clear c0 c1 c2 c3 ck d1 d2 HS
      refine wp_region_noPanic ?_
      refine wp_region_held_drew (S := (fun u : World => u.cell? ⟨w.heap.size, 1, none⟩ = some (.slice (some ⟨b2, off2, none⟩) g.es.length ce) ∧ u.cell? ⟨w.heap.size + 1, 0, none⟩ = some (.slice Pn p.ns.length pn) ∧ u.cell? ⟨b2, off2 + q * 3 + 1, none⟩ = some (.int .i64 (fr : Int)) ∧ u.cell? ⟨b2, off2 + q * 3 + 2, none⟩ = some (.int .i64 (tt : Int)))) (by kernel_rfl) (HMM.out _ WD0.out) (fun hHeld => ?_)
      generalize wr.drew = wd at *
      refine wpAnyH_take (i := 0) (v := ?_) (oper_at (r := _) rfl) (by kernel_rfl) (by kernel_rfl) (by kernel_rfl) (fun _ _ _ h => h) (Or.inl ⟨by rfl, ?_⟩) (by assumption) ?_
      rotate_left
      · intro w hSw; try dsimp only at hSw
        go_simp
        try with_reducible rfl
      try simp only [Act.put, List.setIfInBounds_toArray, List.set_cons_zero, List.set_cons_succ]
      refine wpAnyH_take (i := 1) (v := ?_) (oper_at (r := _) rfl) (by kernel_rfl) (by kernel_rfl) (by kernel_rfl) (fun _ _ _ h => h) (Or.inl ⟨by rfl, ?_⟩) (by assumption) ?_
      rotate_left
      · intro w hSw; try dsimp only at hSw
        go_simp
        try with_reducible rfl
      try simp only [Act.put, List.setIfInBounds_toArray, List.set_cons_zero, List.set_cons_succ]
      refine wpAnyH_take (i := 2) (v := ?_) (oper_at (r := _) rfl) (by kernel_rfl) (by kernel_rfl) (by kernel_rfl) (fun _ _ _ h => h) (Or.inl ⟨by rfl, ?_⟩) (by assumption) ?_
      rotate_left
      · intro w hSw; try dsimp only at hSw
        go_simp
        try with_reducible rfl
      try simp only [Act.put, List.setIfInBounds_toArray, List.set_cons_zero, List.set_cons_succ]
      refine wpAnyH_take (i := 3) (v := ?_) (oper_at (r := _) rfl) (by kernel_rfl) (by kernel_rfl) (by kernel_rfl) (fun _ _ _ h => h) (Or.inl ⟨by rfl, ?_⟩) (by assumption) ?_
      rotate_left
      · intro w hSw; try dsimp only at hSw
        go_simp
        try with_reducible rfl
      try simp only [Act.put, List.setIfInBounds_toArray, List.set_cons_zero, List.set_cons_succ]
      refine wpAnyH_take (i := 4) (v := ?_) (oper_at (r := _) rfl) (by kernel_rfl) (by kernel_rfl) (by kernel_rfl) (fun _ _ _ h => h) (Or.inl ⟨by rfl, ?_⟩) (by assumption) ?_
      rotate_left
      · intro w hSw; try dsimp only at hSw
        go_simp
        try with_reducible rfl
      try simp only [Act.put, List.setIfInBounds_toArray, List.set_cons_zero, List.set_cons_succ]
      refine wpAnyH_take (i := 5) (v := ?_) (oper_at (r := _) rfl) (by kernel_rfl) (by kernel_rfl) (by kernel_rfl) (fun _ _ _ h => h) (Or.inl ⟨by rfl, ?_⟩) (by assumption) ?_
      rotate_left
      · intro w hSw; try dsimp only at hSw
        go_simp
        try with_reducible rfl
      try simp only [Act.put, List.setIfInBounds_toArray, List.set_cons_zero, List.set_cons_succ]
      refine wpAnyH_take (i := 6) (v := ?_) (oper_at (r := _) rfl) (by kernel_rfl) (by kernel_rfl) (by kernel_rfl) (fun _ _ _ h => h) (Or.inl ⟨by rfl, ?_⟩) (by assumption) ?_
      rotate_left
      · intro w hSw; try dsimp only at hSw
        go_simp
        try with_reducible rfl
      try simp only [Act.put, List.setIfInBounds_toArray, List.set_cons_zero, List.set_cons_succ]
      refine wpAnyH_take (i := 7) (v := ?_) (oper_at (r := _) rfl) (by kernel_rfl) (by kernel_rfl) (by kernel_rfl) (fun _ _ _ h => h) (Or.inl ⟨by rfl, ?_⟩) (by assumption) ?_
      rotate_left
      · intro w hSw; try dsimp only at hSw
        go_simp
        try with_reducible rfl
      try simp only [Act.put, List.setIfInBounds_toArray, List.set_cons_zero, List.set_cons_succ]
      refine wpAnyH_ready (rs := [8]) (by kernel_rfl) (by simp) ?_
      refine AllReadyH.cons (oper_at (r := _) rfl) (fun K hK => ?_) AllReadyH.nil
      go_simp
      refine (HQ1.out _ HSD.out.1).mono ?_
      rintro e x2 ⟨rfl, hb2⟩
      have HS2 := Lib.hid (HSD.out.up hb2)
      have WD2 := Lib.hid hb2
      clear hb2 HSD WD0
      go_wp2_with fail
      refine hK.out _ _ (HMM.out _ WD2.out) (fun _ => ?_)
      clear hK K
      try simp only [Act.put, List.setIfInBounds_toArray, List.set_cons_zero, List.set_cons_succ]
      cases z1
      case false =>
        have HE := Lib.hid (HN1.out rfl)
        clear HN1 HN2 HY
        refine wpAnyH_take (i := 9) (v := ?_) (oper_at (r := _) rfl) (by kernel_rfl) (by kernel_rfl) (by kernel_rfl) (fun _ _ _ h => h) (Or.inl ⟨by rfl, ?_⟩) (by assumption) ?_
        rotate_left
        · intro w hSw; try dsimp only at hSw
          go_simp
          try with_reducible rfl
        try simp only [Act.put, List.setIfInBounds_toArray, List.set_cons_zero, List.set_cons_succ]
        refine wpAnyH_take (i := 10) (v := ?_) (oper_at (r := _) rfl) (by kernel_rfl) (by kernel_rfl) (by kernel_rfl) (fun _ _ _ h => h) (Or.inl ⟨by rfl, ?_⟩) (by assumption) ?_
        rotate_left
        · intro w hSw; try dsimp only at hSw
          go_simp
          try with_reducible rfl
        try simp only [Act.put, List.setIfInBounds_toArray, List.set_cons_zero, List.set_cons_succ]
        refine wpAnyH_take (i := 11) (v := undef) (oper_at (r := _) rfl) (by kernel_rfl) (by kernel_rfl) (by kernel_rfl) (fun _ _ _ h => h) (Or.inr ⟨by rfl, rfl⟩) (by assumption) ?_
        try simp only [Act.put, List.setIfInBounds_toArray, List.set_cons_zero, List.set_cons_succ]
        refine wpAnyH_take (i := 12) (v := undef) (oper_at (r := _) rfl) (by kernel_rfl) (by kernel_rfl) (by kernel_rfl) (fun _ _ _ h => h) (Or.inr ⟨by rfl, rfl⟩) (by assumption) ?_
        try simp only [Act.put, List.setIfInBounds_toArray, List.set_cons_zero, List.set_cons_succ]
        refine wpAnyH_take (i := 13) (v := undef) (oper_at (r := _) rfl) (by kernel_rfl) (by kernel_rfl) (by kernel_rfl) (fun _ _ _ h => h) (Or.inr ⟨by rfl, rfl⟩) (by assumption) ?_
        try simp only [Act.put, List.setIfInBounds_toArray, List.set_cons_zero, List.set_cons_succ]
        refine wpAnyH_take (i := 14) (v := undef) (oper_at (r := _) rfl) (by kernel_rfl) (by kernel_rfl) (by kernel_rfl) (fun _ _ _ h => h) (Or.inr ⟨by rfl, rfl⟩) (by assumption) ?_
        try simp only [Act.put, List.setIfInBounds_toArray, List.set_cons_zero, List.set_cons_succ]
        refine wpAnyH_take (i := 15) (v := undef) (oper_at (r := _) rfl) (by kernel_rfl) (by kernel_rfl) (by kernel_rfl) (fun _ _ _ h => h) (Or.inr ⟨by rfl, rfl⟩) (by assumption) ?_
        try simp only [Act.put, List.setIfInBounds_toArray, List.set_cons_zero, List.set_cons_succ]
        refine wpAnyH_take (i := 16) (v := undef) (oper_at (r := _) rfl) (by kernel_rfl) (by kernel_rfl) (by kernel_rfl) (fun _ _ _ h => h) (Or.inr ⟨by rfl, rfl⟩) (by assumption) ?_
        try simp only [Act.put, List.setIfInBounds_toArray, List.set_cons_zero, List.set_cons_succ]
        refine wpAnyH_take (i := 17) (v := undef) (oper_at (r := _) rfl) (by kernel_rfl) (by kernel_rfl) (by kernel_rfl) (fun _ _ _ h => h) (Or.inr ⟨by rfl, rfl⟩) (by assumption) ?_
        try simp only [Act.put, List.setIfInBounds_toArray, List.set_cons_zero, List.set_cons_succ]
        refine wpAnyH_take (i := 18) (v := undef) (oper_at (r := _) rfl) (by kernel_rfl) (by kernel_rfl) (by kernel_rfl) (fun _ _ _ h => h) (Or.inr ⟨by rfl, rfl⟩) (by assumption) ?_
        try simp only [Act.put, List.setIfInBounds_toArray, List.set_cons_zero, List.set_cons_succ]
        refine wpAnyH_ready (rs := [19]) (by kernel_rfl) (by simp) ?_
        refine AllReadyH.cons (oper_at (r := _) rfl) (fun K hK => ?_) AllReadyH.nil
        rw [if_neg (by rw [show Region.wanted _ _ = false from rfl]; exact Bool.false_ne_true)]
        refine hK.out _ _ (HMM.out _ WD2.out) (fun _ => ?_)
        clear hK K
        try simp only [Act.put, List.setIfInBounds_toArray, List.set_cons_zero, List.set_cons_succ]
        refine wpAnyH_take (i := 20) (v := undef) (oper_at (r := _) rfl) (by kernel_rfl) (by kernel_rfl) (by kernel_rfl) (fun _ _ _ h => h) (Or.inr ⟨by rfl, rfl⟩) (by assumption) ?_
        try simp only [Act.put, List.setIfInBounds_toArray, List.set_cons_zero, List.set_cons_succ]
        refine wpAnyH_take (i := 21) (v := ?_) (oper_at (r := _) rfl) (by kernel_rfl) (by kernel_rfl) (by kernel_rfl) (fun _ _ _ h => h) (Or.inl ⟨by rfl, ?_⟩) (by assumption) ?_
        rotate_left
        · intro w hSw; try dsimp only at hSw
          go_simp
          try with_reducible rfl
        try simp only [Act.put, List.setIfInBounds_toArray, List.set_cons_zero, List.set_cons_succ]
        refine wpAnyH_done (by kernel_rfl) ?_ _
        refine NoPanic.normal ?_
        go_wp2_with fail
        go_ret
        exact ⟨ret_int (by rw [HE.out]; rfl), HS2.out.1⟩
      case true =>
        have HYa := Lib.hid (HY.out rfl)
        clear HY HN1
        refine wpAnyH_take (i := 9) (v := ?_) (oper_at (r := _) rfl) (by kernel_rfl) (by kernel_rfl) (by kernel_rfl) (fun _ _ _ h => h) (Or.inl ⟨by rfl, ?_⟩) (by assumption) ?_
        rotate_left
        · intro w hSw; try dsimp only at hSw
          go_simp
          try with_reducible rfl
        try simp only [Act.put, List.setIfInBounds_toArray, List.set_cons_zero, List.set_cons_succ]
        refine wpAnyH_take (i := 10) (v := ?_) (oper_at (r := _) rfl) (by kernel_rfl) (by kernel_rfl) (by kernel_rfl) (fun _ _ _ h => h) (Or.inl ⟨by rfl, ?_⟩) (by assumption) ?_
        rotate_left
        · intro w hSw; try dsimp only at hSw
          go_simp
          try with_reducible rfl
        try simp only [Act.put, List.setIfInBounds_toArray, List.set_cons_zero, List.set_cons_succ]
        refine wpAnyH_take (i := 11) (v := ?_) (oper_at (r := _) rfl) (by kernel_rfl) (by kernel_rfl) (by kernel_rfl) (fun _ _ _ h => h) (Or.inl ⟨by rfl, ?_⟩) (by assumption) ?_
        rotate_left
        · intro w hSw; try dsimp only at hSw
          go_simp
          try with_reducible rfl
        try simp only [Act.put, List.setIfInBounds_toArray, List.set_cons_zero, List.set_cons_succ]
        refine wpAnyH_take (i := 12) (v := ?_) (oper_at (r := _) rfl) (by kernel_rfl) (by kernel_rfl) (by kernel_rfl) (fun _ _ _ h => h) (Or.inl ⟨by rfl, ?_⟩) (by assumption) ?_
        rotate_left
        · intro w hSw; try dsimp only at hSw
          go_simp
          try with_reducible rfl
        try simp only [Act.put, List.setIfInBounds_toArray, List.set_cons_zero, List.set_cons_succ]
        refine wpAnyH_take (i := 13) (v := ?_) (oper_at (r := _) rfl) (by kernel_rfl) (by kernel_rfl) (by kernel_rfl) (fun _ _ _ h => h) (Or.inl ⟨by rfl, ?_⟩) (by assumption) ?_
        rotate_left
        · intro w hSw; try dsimp only at hSw
          go_simp
          try with_reducible rfl
        try simp only [Act.put, List.setIfInBounds_toArray, List.set_cons_zero, List.set_cons_succ]
        refine wpAnyH_take (i := 14) (v := ?_) (oper_at (r := _) rfl) (by kernel_rfl) (by kernel_rfl) (by kernel_rfl) (fun _ _ _ h => h) (Or.inl ⟨by rfl, ?_⟩) (by assumption) ?_
        rotate_left
        · intro w hSw; try dsimp only at hSw
          go_simp
          try with_reducible rfl
        try simp only [Act.put, List.setIfInBounds_toArray, List.set_cons_zero, List.set_cons_succ]
        refine wpAnyH_take (i := 15) (v := ?_) (oper_at (r := _) rfl) (by kernel_rfl) (by kernel_rfl) (by kernel_rfl) (fun _ _ _ h => h) (Or.inl ⟨by rfl, ?_⟩) (by assumption) ?_
        rotate_left
        · intro w hSw; try dsimp only at hSw
          go_simp
          try with_reducible rfl
        try simp only [Act.put, List.setIfInBounds_toArray, List.set_cons_zero, List.set_cons_succ]
        refine wpAnyH_take (i := 16) (v := ?_) (oper_at (r := _) rfl) (by kernel_rfl) (by kernel_rfl) (by kernel_rfl) (fun _ _ _ h => h) (Or.inl ⟨by rfl, ?_⟩) (by assumption) ?_
        rotate_left
        · intro w hSw; try dsimp only at hSw
          go_simp
          try with_reducible rfl
        try simp only [Act.put, List.setIfInBounds_toArray, List.set_cons_zero, List.set_cons_succ]
        refine wpAnyH_take (i := 17) (v := ?_) (oper_at (r := _) rfl) (by kernel_rfl) (by kernel_rfl) (by kernel_rfl) (fun _ _ _ h => h) (Or.inl ⟨by rfl, ?_⟩) (by assumption) ?_
        rotate_left
        · intro w hSw; try dsimp only at hSw
          go_simp
          try with_reducible rfl
        try simp only [Act.put, List.setIfInBounds_toArray, List.set_cons_zero, List.set_cons_succ]
        refine wpAnyH_take (i := 18) (v := ?_) (oper_at (r := _) rfl) (by kernel_rfl) (by kernel_rfl) (by kernel_rfl) (fun _ _ _ h => h) (Or.inl ⟨by rfl, ?_⟩) (by assumption) ?_
        rotate_left
        · intro w hSw; try dsimp only at hSw
          go_simp
          try with_reducible rfl
        try simp only [Act.put, List.setIfInBounds_toArray, List.set_cons_zero, List.set_cons_succ]
        refine wpAnyH_ready (rs := [19]) (by kernel_rfl) (by simp) ?_
        refine AllReadyH.cons (oper_at (r := _) rfl) (fun K hK => ?_) AllReadyH.nil
        go_simp
        refine (HQ2.out _ HS2.out.1).mono ?_
        rintro e x3 ⟨rfl, hb3⟩
        have HS3 := Lib.hid (HS2.out.up hb3)
        have WD3 := Lib.hid (WD2.out.trans (hb3.mono WD2.out.size))
        clear hb3 HS2 WD2
        go_wp2_with fail
        refine hK.out _ _ (HMM.out _ WD3.out) (fun _ => ?_)
        clear hK K
        try simp only [Act.put, List.setIfInBounds_toArray, List.set_cons_zero, List.set_cons_succ]
        cases z2
        case false =>
          have HE := Lib.hid (HN2.out rfl)
          clear HN2 HYa
          refine wpAnyH_take (i := 20) (v := ?_) (oper_at (r := _) rfl) (by kernel_rfl) (by kernel_rfl) (by kernel_rfl) (fun _ _ _ h => h) (Or.inl ⟨by rfl, ?_⟩) (by assumption) ?_
          rotate_left
          · intro w hSw; try dsimp only at hSw
            go_simp
            try with_reducible rfl
          try simp only [Act.put, List.setIfInBounds_toArray, List.set_cons_zero, List.set_cons_succ]
          refine wpAnyH_take (i := 21) (v := ?_) (oper_at (r := _) rfl) (by kernel_rfl) (by kernel_rfl) (by kernel_rfl) (fun _ _ _ h => h) (Or.inl ⟨by rfl, ?_⟩) (by assumption) ?_
          rotate_left
          · intro w hSw; try dsimp only at hSw
            go_simp
            try with_reducible rfl
          try simp only [Act.put, List.setIfInBounds_toArray, List.set_cons_zero, List.set_cons_succ]
          refine wpAnyH_done (by kernel_rfl) ?_ _
          refine NoPanic.normal ?_
          go_wp2_with fail
          go_ret
          exact ⟨ret_int (by rw [HE.out]; rfl), HS3.out.1⟩
        case true =>
          have HE := Lib.hid (HYa.out rfl)
          clear HN2 HYa
          refine wpAnyH_take (i := 20) (v := ?_) (oper_at (r := _) rfl) (by kernel_rfl) (by kernel_rfl) (by kernel_rfl) (fun _ _ _ h => h) (Or.inl ⟨by rfl, ?_⟩) (by assumption) ?_
          rotate_left
          · intro w hSw; try dsimp only at hSw
            go_simp
            try with_reducible rfl
          try simp only [Act.put, List.setIfInBounds_toArray, List.set_cons_zero, List.set_cons_succ]
          refine wpAnyH_take (i := 21) (v := ?_) (oper_at (r := _) rfl) (by kernel_rfl) (by kernel_rfl) (by kernel_rfl) (fun _ _ _ h => h) (Or.inl ⟨by rfl, ?_⟩) (by assumption) ?_
          rotate_left
          · intro w hSw; try dsimp only at hSw
            go_simp
            try with_reducible rfl
          try simp only [Act.put, List.setIfInBounds_toArray, List.set_cons_zero, List.set_cons_succ]
          refine wpAnyH_done (by kernel_rfl) ?_ _
          refine NoPanic.normal ?_
          go_wp2_with fail
          go_roundw
          case rel => exact ⟨k + 1, HLT.out, by go_num, HS3.out, HE.out⟩
          case measure => exact HM.out
    · have HN : Hid (R = 0) := Lib.hid (by rw [HR.out]; exact HEND.out k (by omega))
      go_wp2_with fail
      go_ret
      exact ⟨ret_int (by rw [HN.out]; rfl), HS.out.1⟩

end Go.Proofs.YthnhacncnhknnaaGreatDoor

/-
  Parts of graphs, the reference: combined, Join, Meet, Image, Preimage. Printed by mkr4.py.
-/
namespace Go.Proofs.YthnhacncnhknnaaGreatDoor
open Go.RowKit Go.Shelf

def combP (all : Bool) (g : Gr) (p q : Mo) : Mo := ⟨sel (fun i => mrg all (inB p.ns i) (inB q.ns i)) g.ns.length, sel (fun i => mrg all (inB p.es i) (inB q.es i)) g.es.length⟩
def combR (all : Bool) (g : Gr) (p q : Mo) : Mo := if twoE g p q = 0 then combP all g p q else noM
theorem comb_join (g : Gr) (p q : Mo) : combR false g p q = joinP g p q := by
  unfold combR joinP combP orP orL
  simp only [mrg_or]
theorem comb_meet (g : Gr) (p q : Mo) : combR true g p q = meetP g p q := by
  unfold combR meetP combP andP andL
  simp only [mrg_and]

end Go.Proofs.YthnhacncnhknnaaGreatDoor

/-
  Parts of graphs, the program: unite, Join, Meet, Image, Preimage. Printed by mkg3.py.
-/
namespace Go.Proofs.YthnhacncnhknnaaGreatDoor
open Go.RowKit Go.Shelf

theorem distinctD_any (xs : List Int) (A : Option Addr) (c : Nat) (w : World) (hl : xs.length ≤ 1000) (hA : Ints w w.heap.size A xs) :
    Calls Tryz.prog 30 #[.slice A xs.length c] w fun e w' => ∃ v, e = .returned v ∧ OwnI w' w.heap.size v (dis xs) ∧ Below w.heap.size w w' := distinctG_any xs A c w hl hA
theorem pre_part (a b : Gr) (m p : Mo) : preE a b m p = if morE a b m ≠ 0 then morE a b m else partE b p := by
  unfold preE
  by_cases h : morE a b m = 0
  · rw [if_neg (fun hn => hn h), if_neg (fun hn => hn h)]
    unfold partE
    rw [if_neg (fun hn => hn (mor_zero.1 h).vb)]
  · rw [if_pos h, if_pos h]

end Go.Proofs.YthnhacncnhknnaaGreatDoor

/-
  Parts of graphs, the reference: In, bits. Printed by mkr5.py.
-/
namespace Go.Proofs.YthnhacncnhknnaaGreatDoor
open Go.RowKit Go.Shelf

theorem bit_small : ∀ m : Fin 64, (bits .and .i64 ((m.val : Nat) : Int) 1 == 1) = decide (m.val % 2 = 1) := by decide
theorem bit_at (set k : Nat) (hs : set < 64) : (bits .and .i64 ((set : Int) / 2 ^ k) 1 == 1) = set.testBit k := by
  have e : (set : Int) / 2 ^ k = ((set / 2 ^ k : Nat) : Int) := by rw [Int.natCast_ediv]; simp
  have hm : set / 2 ^ k < 64 := Nat.lt_of_le_of_lt (Nat.div_le_self _ _) hs
  rw [e, Nat.testBit_eq_decide_div_mod_eq]
  exact bit_small ⟨_, hm⟩
end Go.Proofs.YthnhacncnhknnaaGreatDoor
