/-
  Pairs of the call's own: append of one, slices.Reverse.
-/
import Derived.Test.YtdflgcfjfgojkaaUni
import Derived.BigRegion
namespace Go.Proofs.Ytdflgcfjfgojkaa
open Go.RowKit

theorem infoPair : (Try.prog.info? 46).map (fun i => (i.zero, i.size, i.bytes)) = some (some (.agg #[.int .i64 0, .int .i64 0]), 2, 16) := by kernel_rfl

def pAt (ps : List (Nat × Nat)) (i : Nat) : Nat × Nat := ps.getD i (0, 0)
def pcells (x : Nat × Nat) : List Value := [.int .i64 (x.1 : Int), .int .i64 (x.2 : Int)]
def cellsP (ps : List (Nat × Nat)) : List Value := ps.flatMap pcells
theorem cellsP_cons (x : Nat × Nat) (r : List (Nat × Nat)) : cellsP (x :: r) = .int .i64 (x.1 : Int) :: .int .i64 (x.2 : Int) :: cellsP r := rfl
theorem cellsP_length (ps : List (Nat × Nat)) : (cellsP ps).length = ps.length * 2 := by
  induction ps with
  | nil => rfl
  | cons x r ih => rw [cellsP_cons]; simp only [List.length_cons, ih]; omega
theorem cellsP_snoc (ps : List (Nat × Nat)) (x : Nat × Nat) : cellsP (ps ++ [x]) = cellsP ps ++ pcells x := by simp [cellsP]
theorem cellsP_get {ps : List (Nat × Nat)} {i : Nat} (h : i < ps.length) : (cellsP ps)[i * 2]? = some (.int .i64 ((pAt ps i).1 : Nat)) ∧ (cellsP ps)[i * 2 + 1]? = some (.int .i64 ((pAt ps i).2 : Nat)) := by
  induction ps generalizing i with
  | nil => simp at h
  | cons x r ih =>
    rw [cellsP_cons]
    cases i with
    | zero => exact ⟨rfl, rfl⟩
    | succ i =>
      rw [show (i + 1) * 2 = i * 2 + 1 + 1 by omega]
      exact ih (by simpa using h)
theorem cellsP_set {ps : List (Nat × Nat)} {i : Nat} (h : i < ps.length) (x : Nat × Nat) : ((cellsP ps).set (i * 2) (.int .i64 (x.1 : Int))).set (i * 2 + 1) (.int .i64 (x.2 : Int)) = cellsP (ps.set i x) := by
  induction ps generalizing i with
  | nil => simp at h
  | cons y r ih =>
    rw [cellsP_cons]
    cases i with
    | zero => rfl
    | succ i =>
      rw [show (i + 1) * 2 = i * 2 + 1 + 1 by omega]
      simp only [List.set_cons_succ]
      rw [ih (by simpa using h), cellsP_cons]

abbrev OwnP (w : World) (base : Nat) (v : Value) (ps : List (Nat × Nat)) : Prop := w.ownsRow base 46 2 v ps.length (cellsP ps)
theorem OwnP.pairs {w : World} {base : Nat} {v : Value} {ps : List (Nat × Nat)} (h : OwnP w base v ps) : ∃ A c, v = .slice A ps.length c ∧ ps.length ≤ c ∧ c ≤ maxLen ∧ Pairs w w.heap.size A ps := by
  have h0 := h
  rcases h.2 with ⟨hv, hn⟩ | ⟨g, cap, cur, hv, hb, hg, hnc, hcm, _⟩
  · exact ⟨none, 0, by rw [hv, hn], by omega, by unfold maxLen; omega, .inl (List.eq_nil_of_length_eq_zero hn)⟩
  · refine ⟨_, cap, hv, hnc, hcm, .inr ⟨g, 0, rfl, (h0.lt g (by rw [hv]; rfl)).2, fun i hi => ?_⟩⟩
    have hc := h0.cells (g := g) (by rw [hv]; rfl)
    obtain ⟨k1, k2⟩ := cellsP_get hi
    have c1 := hc _ _ k1
    have c2 := hc _ _ k2
    rw [addr_plain] at c1 c2
    exact ⟨c1, c2⟩
theorem OwnP.below {w w' : World} {base B : Nat} {v : Value} {ps : List (Nat × Nat)} (h : OwnP w base v ps) (hb : Below B w w') (hB : w.heap.size ≤ B) : OwnP w' base v ps := by
  refine ⟨h.1, ?_⟩
  rcases h.2 with hn | ⟨g, cap, cur, hv, hbg, hg, rest⟩
  · exact .inl hn
  · exact .inr ⟨g, cap, cur, hv, hbg, by rw [hb.block g (Nat.lt_of_lt_of_le (h.lt g (by rw [hv]; rfl)).2 hB)]; exact hg, rest⟩
theorem OwnP.cast {w : World} {base : Nat} {v : Value} {ps qs : List (Nat × Nat)} (e : ps = qs) (h : OwnP w base v ps) : OwnP w base v qs := e ▸ h

theorem wpList_append_pair {w : World} {ops : Array Oper} {rest : List Oper} {o : Oper} {a : Act} {Q : Exit → Act → World → Prop} (hgd : o.guard = none) (s x : Operand)
    (ho : o.op = .call { callee := .builtin .append, args := #[s, x], argTypes := #[43, 43] })
    (base : Nat) (v : Value) (ps : List (Nat × Nat)) (hs : a.eval s = v) (hown : OwnP w base v ps) (g c : Nat) (m : Nat × Nat) (hx : a.eval x = .slice (some ⟨g, 0, none⟩) 1 c)
    (hc : w.heap[g]? = some (.cells #[.int .i64 (m.1 : Int), .int .i64 (m.2 : Int)] 46 (0, 0))) (hl : ps.length ≤ 1000000) (hbase : base ≤ w.heap.size)
    (hK : ∀ v' w', OwnP w' base v' (ps ++ [m]) → Below base w w' → wpList Try.prog ops Q rest (a.put o.dst v') w') : wpList Try.prog ops Q (o :: rest) a w := by
  obtain ⟨i0, hi, hz0, hz1, hz2⟩ := info_parts infoPair
  refine wpList_append_own w hgd s x 43 ho base 46 i0 (.agg #[.int .i64 0, .int .i64 0]) 2 16 Try.underlying43 hi hz0 hz1 hz2 rfl (by decide) v ps.length (cellsP ps) hs hown ⟨g, 0, none⟩ 1 c (pcells m) hx rfl ?_ ?_ (by unfold maxLen; omega) (by omega) hbase ?_
  · intro j u hj
    rw [addr_plain, Nat.zero_add, cell_of_row w g j _ 46 (0, 0) hc]
    match j with
    | 0 => simpa [pcells] using hj
    | 1 => simpa [pcells] using hj
    | j + 2 => simp [pcells] at hj
  · intro u hu; simp [pcells] at hu; rcases hu with rfl | rfl <;> rfl
  · intro v' w' h1 h2 _
    refine hK v' w' ?_ ((Below.refl base w).grown h2 hbase (fun k hk => (hown.lt k hk).1))
    unfold OwnP
    rw [cellsP_snoc, List.length_append]
    exact h1

theorem OwnP.cell {w : World} {base g c n : Nat} {ps : List (Nat × Nat)} (hn : n = ps.length) (h : OwnP w base (.slice (some ⟨g, 0, none⟩) n c) ps) {i : Nat} (hi : i < n) :
    w.cell? ⟨g, i * 2, none⟩ = some (.int .i64 ((pAt ps i).1 : Nat)) ∧ w.cell? ⟨g, i * 2 + 1, none⟩ = some (.int .i64 ((pAt ps i).2 : Nat)) ∧ w.frozen? ⟨g, i * 2, none⟩ = false ∧ w.frozen? ⟨g, i * 2 + 1, none⟩ = false := by
  subst hn
  obtain ⟨k1, k2⟩ := cellsP_get hi
  exact ⟨by rw [World.ownsRow.cellAt h _ (by omega)]; exact k1, by rw [World.ownsRow.cellAt h _ (by omega)]; exact k2, World.ownsRow.frozenAt h _, World.ownsRow.frozenAt h _⟩

theorem OwnP.set {w : World} {base g c n : Nat} {ps : List (Nat × Nat)} (hn : n = ps.length) (h : OwnP w base (.slice (some ⟨g, 0, none⟩) n c) ps) {i : Nat} (hi : i < n) (x : Nat × Nat) :
    OwnP ((w.setCell ⟨g, i * 2, none⟩ (.int .i64 (x.1 : Int))).setCell ⟨g, i * 2 + 1, none⟩ (.int .i64 (x.2 : Int))) base (.slice (some ⟨g, 0, none⟩) n c) (ps.set i x) ∧
      w.grownBy ((w.setCell ⟨g, i * 2, none⟩ (.int .i64 (x.1 : Int))).setCell ⟨g, i * 2 + 1, none⟩ (.int .i64 (x.2 : Int))) (some g) := by
  subst hn
  obtain ⟨h1, h2⟩ := World.ownsRow.stored h (i * 2) (.int .i64 (x.1 : Int))
  obtain ⟨h3, h4⟩ := World.ownsRow.stored h1 (i * 2 + 1) (.int .i64 (x.2 : Int))
  rw [cellsP_set hi] at h3
  refine ⟨?_, grown_trans h2 h4⟩
  have e : (ps.set i x).length = ps.length := by simp
  unfold OwnP
  rw [e]
  exact h3
theorem grown_drew {a b : World} {r : Option Nat} (h : a.grownBy b r) : a.grownBy b.drew r := ⟨h.os, h.tape, h.output, h.size, h.block⟩
theorem swap_perm {ps : List (Nat × Nat)} {i j : Nat} (hi : i < ps.length) (hj : j < ps.length) : ((ps.set i (pAt ps j)).set j (pAt ps i)).Perm ps := by
  have e1 : pAt ps j = ps[j] := by simp [pAt, List.getD, hj]
  have e2 : pAt ps i = ps[i] := by simp [pAt, List.getD, hi]
  rw [e1, e2]
  exact List.set_set_perm hi hj

set_option maxHeartbeats 4000000 in
theorem reverse_any (ps : List (Nat × Nat)) (g c base : Nat) (w : World) (hl : ps.length ≤ 1000000) (hown : OwnP w base (.slice (some ⟨g, 0, none⟩) ps.length c) ps) :
    Calls Try.prog 31 #[.slice (some ⟨g, 0, none⟩) ps.length c] w fun e w' =>
      e = .returned (.tuple #[]) ∧ (∃ qs : List (Nat × Nat), qs.Perm ps ∧ OwnP w' base (.slice (some ⟨g, 0, none⟩) ps.length c) qs) ∧ w.grownBy w' (some g) := by
  have HO := Lib.hid hown
  clear hown
  go_enter Try.func31, Try.ntmps31
  go_wp2_with fail
  go_loopw [2, 3] (fun x y wr => ∃ (k : Nat) (qs : List (Nat × Nat)), 2 * k ≤ ps.length + 1 ∧ x = .int .i64 k ∧ y = .int .i64 ((ps.length : Int) - 1 - k) ∧ qs.Perm ps ∧ OwnP wr base (.slice (some ⟨g, 0, none⟩) ps.length c) qs ∧ w.grownBy wr (some g)) (fun x _ _ => ps.length - (intOf x).toNat)
  case atStart => exact ⟨0, ps, by omega, rfl, by simp, List.Perm.refl _, HO.out, grown_refl _ _⟩
  case round =>
    obtain ⟨k, qs, hk, rfl, rfl, hp, hown, hgr⟩ := hrel
    have HP := Lib.hid hp
    have HW := Lib.hid hown
    have HG := Lib.hid hgr
    have hln := hp.length_eq
    by_cases hlt : 2 * k + 1 < ps.length
    · obtain ⟨j, hj⟩ : ∃ j : Nat, ps.length = j + 1 + k := ⟨ps.length - 1 - k, by omega⟩
      have hjv : (ps.length : Int) - 1 - k = (j : Int) := by omega
      rw [hjv]
      have hkj : k < j := by omega
      have hjl : j < ps.length := by omega
      obtain ⟨a1, a2, a3, a4⟩ := hown.cell hln.symm (i := k) (by omega)
      obtain ⟨b1, b2, b3, b4⟩ := hown.cell hln.symm (i := j) hjl
      have hk0 : (0 : Int) ≤ (k : Int) := by omega
      have hk1 : (k : Int) < (ps.length : Int) := by omega
      have hk2 : ((k : Int)).toNat = k := by omega
      have hj0 : (0 : Int) ≤ (j : Int) := by omega
      have hj1 : (j : Int) < (ps.length : Int) := by omega
      have hj2 : ((j : Int)).toNat = j := by omega
      have hkl : (k : Int) < (j : Int) := by omega
      have HLN := Lib.hid hln
      obtain ⟨s1, s2⟩ := OwnP.set hln.symm hown (i := k) (by omega) (pAt qs j)
      obtain ⟨s3, s4⟩ := OwnP.set (by rw [List.length_set]; exact hln.symm) s1 (i := j) hjl (pAt qs k)
      have HW2 := Lib.hid s3
      have HG2 := Lib.hid (grown_trans hgr (grown_trans s2 s4))
      have HP2 := Lib.hid ((swap_perm (ps := qs) (i := k) (j := j) (by omega) (by omega)).trans hp)
      have HJ := Lib.hid hj
      clear hown hp hgr hln hj hjv s1 s2 s3 s4
      go_wp2_with fail
      go_region
      go_wp2_with fail
      go_roundw
      case rel => exact ⟨k + 1, _, by omega, by go_num, by have := HJ.out; congr 1; omega, HP2.out, HW2.out, grown_drew HG2.out⟩
      case measure => simp [intOf]; omega
    · have hle : (ps.length : Int) - 1 - k ≤ k := by omega
      clear hown hgr hp hln
      go_wp2_with fail
      go_end0
      exact ⟨rfl, ⟨qs, HP.out, HW.out⟩, HG.out⟩

end Go.Proofs.Ytdflgcfjfgojkaa
