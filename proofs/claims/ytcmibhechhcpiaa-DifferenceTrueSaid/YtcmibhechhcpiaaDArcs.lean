/-
  Difference: arcs of the reference.
-/
import Derived.Test.YtcmibhechhcpiaaDValid
namespace Go.Proofs.Ytcmibhechhcpiaa
open Go.RowKit

instance : Inhabited Tst := ⟨⟨0, 0, 0, 0, 0⟩⟩
/-- the uses of the test number i -/
def arcsAt (i : Nat) (x : Tst) : List Arc :=
  ⟨i, 1, (x.lv + 1).toNat, (x.rv + 1).toNat, x.ra - x.la⟩ :: (if x.k = 2 then [⟨i, -1, (x.rv + 1).toNat, (x.lv + 1).toNat, -(x.ra - x.la)⟩] else [])
/-- the uses of the first k tests -/
def arcsF (xs : List Tst) : Nat → List Arc
  | 0 => []
  | k + 1 => arcsF xs k ++ arcsAt k (xs.getD k default)
abbrev arcsL (xs : List Tst) : List Arc := arcsF xs xs.length
theorem arcsF_len (xs : List Tst) (k : Nat) : (arcsF xs k).length ≤ 2 * k := by
  induction k with
  | zero => simp [arcsF]
  | succ k ih =>
    have : (arcsAt k (xs.getD k default)).length ≤ 2 := by unfold arcsAt; split <;> simp
    simp only [arcsF, List.length_append]
    omega
/-- a right test -/
def Good (n : Int) (x : Tst) : Prop := (x.k = 1 ∨ x.k = 2) ∧ (-1 ≤ x.lv ∧ x.lv < n ∧ -1000000 ≤ x.la ∧ x.la ≤ 1000000) ∧ (-1 ≤ x.rv ∧ x.rv < n ∧ -1000000 ≤ x.ra ∧ x.ra ≤ 1000000)
theorem within_zero {n v a : Int} : withinS n v a = 0 ↔ -1 ≤ v ∧ v < n ∧ -1000000 ≤ a ∧ a ≤ 1000000 := by
  unfold withinS
  split
  · constructor
    · intro h; omega
    · intro h; omega
  · constructor
    · intro _; omega
    · intro _; rfl
theorem one_zero {n : Int} {x : Tst} : oneS n x = 0 ↔ Good n x := by
  unfold Good oneS
  rw [← within_zero, ← within_zero]
  split
  · constructor
    · intro h; omega
    · intro h; omega
  · split
    · constructor
      · intro h; omega
      · intro h; omega
    · constructor
      · intro h; omega
      · intro h; exact h.2.2
theorem firstE_zero {n : Int} {xs : List Tst} : firstE n xs = 0 ↔ ∀ x ∈ xs, Good n x := by
  induction xs with
  | nil => simp [firstE]
  | cons x r ih =>
    unfold firstE
    split
    · next h => constructor
                · intro h2; exact absurd h2 h
                · intro h2; exact absurd (one_zero.2 (h2 x (by simp))) h
    · next h =>
      have hx := one_zero.1 (Decidable.of_not_not h)
      rw [ih]
      constructor
      · intro h2 y hy
        rcases List.mem_cons.1 hy with rfl | hy
        · exact hx
        · exact h2 y hy
      · intro h2 y hy
        exact h2 y (List.mem_cons_of_mem _ hy)
theorem validS_zero {n : Int} {xs : List Tst} : validS n xs = 0 ↔ (0 ≤ n ∧ n ≤ 12) ∧ xs.length ≤ 40 ∧ ∀ x ∈ xs, Good n x := by
  rw [← firstE_zero]
  unfold validS
  split
  · constructor
    · intro h; omega
    · intro h; omega
  · split
    · constructor
      · intro h; omega
      · intro h; omega
    · constructor
      · intro h; exact ⟨by omega, by omega, h⟩
      · intro h; exact h.2.2

theorem arcsF_mem {xs : List Tst} : ∀ {k : Nat} {a : Arc}, a ∈ arcsF xs k → ∃ i, i < k ∧ a ∈ arcsAt i (xs.getD i default) := by
  intro k
  induction k with
  | zero => intro a h; simp [arcsF] at h
  | succ k ih =>
    intro a h
    simp only [arcsF, List.mem_append] at h
    rcases h with h | h
    · obtain ⟨i, hi, h⟩ := ih h
      exact ⟨i, by omega, h⟩
    · exact ⟨k, by omega, h⟩
theorem arcsF_of {xs : List Tst} {i : Nat} {a : Arc} : ∀ {k : Nat}, i < k → a ∈ arcsAt i (xs.getD i default) → a ∈ arcsF xs k := by
  intro k
  induction k with
  | zero => intro h; omega
  | succ k ih =>
    intro h ha
    simp only [arcsF, List.mem_append]
    by_cases e : i = k
    · subst e; exact .inr ha
    · exact .inl (ih (by omega) ha)
theorem arcsAt_t {i : Nat} {x : Tst} {a : Arc} (h : a ∈ arcsAt i x) : a.t = i ∧ (a.s = 1 ∨ a.s = -1) := by
  unfold arcsAt at h
  rcases List.mem_cons.1 h with rfl | h
  · exact ⟨rfl, .inl rfl⟩
  · split at h
    · simp at h; subst h; exact ⟨rfl, .inr rfl⟩
    · simp at h
theorem sorted_at (i : Nat) (x : Tst) : Sorted (arcsAt i x) := by
  unfold Sorted arcsAt
  split
  · simp [key]; omega
  · simp [key]
theorem sorted_arcs (xs : List Tst) (k : Nat) : Sorted (arcsF xs k) := by
  induction k with
  | zero => exact List.Pairwise.nil
  | succ k ih =>
    refine List.pairwise_append.2 ⟨ih, sorted_at _ _, fun a ha b hb => ?_⟩
    obtain ⟨i, hi, ha⟩ := arcsF_mem ha
    obtain ⟨h1, h2⟩ := arcsAt_t ha
    obtain ⟨h3, h4⟩ := arcsAt_t hb
    unfold key
    rw [h1, h3]
    split <;> split <;> omega
theorem getD_mem {xs : List Tst} {i : Nat} (h : i < xs.length) : xs.getD i default ∈ xs := by
  rw [List.getD_eq_getElem?_getD, List.getElem?_eq_getElem h]; simp
theorem arcs_in {n : Int} {xs : List Tst} (hx : ∀ x ∈ xs, Good n x) : inN n.toNat (arcsL xs) := by
  intro a ha
  obtain ⟨i, hi, ha⟩ := arcsF_mem ha
  obtain ⟨_, ⟨h1, h2, _, _⟩, h3, h4, _, _⟩ := hx _ (getD_mem hi)
  unfold arcsAt at ha
  rcases List.mem_cons.1 ha with rfl | ha
  · constructor <;> dsimp only <;> omega
  · split at ha
    · simp only [List.mem_singleton] at ha; subst ha; constructor <;> dsimp only <;> omega
    · simp at ha
theorem arcs_small {n : Int} {xs : List Tst} (hx : ∀ x ∈ xs, Good n x) : Small (arcsL xs) := by
  intro a ha
  obtain ⟨i, hi, ha⟩ := arcsF_mem ha
  obtain ⟨_, ⟨_, _, h1, h2⟩, _, _, h3, h4⟩ := hx _ (getD_mem hi)
  unfold arcsAt at ha
  rcases List.mem_cons.1 ha with rfl | ha
  · constructor <;> dsimp only <;> omega
  · split at ha
    · simp only [List.mem_singleton] at ha; subst ha; constructor <;> dsimp only <;> omega
    · simp at ha

/-! memory -/
theorem infoArc : (Try.prog.info? 96).map (fun i => (i.zero, i.size, i.bytes)) = some (some (.agg #[.int .i64 0, .int .i64 0, .int .i64 0, .int .i64 0, .int .i64 0]), 5, 40) := by kernel_rfl
abbrev OwnA (w : World) (base : Nat) (v : Value) (xs : List Arc) : Prop := OwnE EArc 96 w base v xs
abbrev Arcs (w : World) (B : Nat) (A : Option Addr) (xs : List Arc) : Prop := Reads EArc w B A xs
theorem wpList_append_arc {w : World} {ops : Array Oper} {rest : List Oper} {o : Oper} {a : Act} {Q : Exit → Act → World → Prop} (hgd : o.guard = none) (s x : Operand)
    (ho : o.op = .call { callee := .builtin .append, args := #[s, x], argTypes := #[90, 90] })
    (base : Nat) (v : Value) (xs : List Arc) (hs : a.eval s = v) (hown : OwnA w base v xs) (g c : Nat) (m : Arc) (hx : a.eval x = .slice (some ⟨g, 0, none⟩) 1 c)
    (hc : w.heap[g]? = some (.cells #[.int .i64 m.t, .int .i64 m.s, .int .i64 m.f, .int .i64 m.g, .int .i64 m.c] 96 (0, 0))) (hl : xs.length ≤ 1000000) (hbase : base ≤ w.heap.size)
    (hK : ∀ v' w', OwnA w' base v' (xs ++ [m]) → w.grownBy w' v.ownBlock → Below base w w' → wpList Try.prog ops Q rest (a.put o.dst v') w') : wpList Try.prog ops Q (o :: rest) a w :=
  wpList_append_E (E := EArc) hgd s x 90 96 ho Try.underlying90 infoArc rfl (by decide) (by decide) base v xs hs hown ⟨g, 0, none⟩ c m hx (news_of (E := EArc) hc rfl) hl hbase hK

set_option maxHeartbeats 1000000 in
theorem arcs_any (n : Int) (xs : List Tst) (A : Option Addr) (c : Nat) (w : World) (hl : xs.length ≤ 1000) (hg : ∀ x ∈ xs, Good n x) (hn : n ≤ 12) (hT : Tsts w w.heap.size A xs) :
    Calls Try.prog 52 #[.slice A xs.length c] w fun e w' => ∃ v, e = .returned v ∧ OwnA w' w.heap.size v (arcsL xs) ∧ Below w.heap.size w w' := by
  have HT := Lib.hid hT
  have HG := Lib.hid hg
  have HS : Hid (∀ k, arcsF xs (k + 1) = arcsF xs k ++ arcsAt k (xs.getD k default)) := Lib.hid fun k => rfl
  have HN := Lib.hid (fun k => arcsF_len xs k)
  clear hT hg
  go_enter Try.func52, Try.ntmps52
  go_wp2_with fail
  go_loopw [3, 4] (fun v i wr => ∃ k : Nat, k ≤ xs.length ∧ i = .int .i64 k ∧ OwnA wr w.heap.size v (arcsF xs k) ∧ Below w.heap.size w wr) (fun _ i _ => xs.length - (intOf i).toNat)
  case atStart => exact ⟨0, Nat.zero_le _, rfl, OwnE.nil _ _ _, Below.refl _ _⟩
  case round =>
    obtain ⟨k, hk, rfl, hown, hb⟩ := hrel
    by_cases hlt : k < xs.length
    · obtain ⟨b, off, rfl, hbb, k0, k1, k2, k3, k4⟩ := Tsts.cells (Reads.below HT.out hb) hlt
      obtain ⟨g1, ⟨g2, g3, g4, g5⟩, g6, g7, g8, g9⟩ := HG.out _ (List.getElem_mem hlt)
      have HD := Lib.hid (HS.out k)
      have hlen := HN.out k
      rw [show xs.getD k default = xs[k] by rw [List.getD_eq_getElem?_getD, List.getElem?_eq_getElem hlt]; rfl] at HD
      have hk0 : (0 : Int) ≤ (k : Int) := by omega
      have hk1 : (k : Int) < (xs.length : Int) := by omega
      have hk2 : ((k : Int)).toNat = k := by omega
      generalize xs[k] = x at k0 k1 k2 k3 k4 HD g1 g2 g3 g4 g5 g6 g7 g8 g9
      obtain ⟨q, lv, la, rv, ra⟩ := x
      dsimp only at k0 k1 k2 k3 k4 HD g1 g2 g3 g4 g5 g6 g7 g8 g9
      have hsz := hb.size
      obtain ⟨A1, c1, rfl⟩ := OwnE.slice hown
      have HO := Lib.hid hown
      have HB := Lib.hid hb
      clear hown hb
      go_wp2_with fail
      obtain ⟨f, hf⟩ : ∃ f : Nat, (f : Int) = lv + 1 := ⟨(lv + 1).toNat, by omega⟩
      obtain ⟨g, hg⟩ : ∃ g : Nat, (g : Int) = rv + 1 := ⟨(rv + 1).toNat, by omega⟩
      have e1 : (lv + 1).toNat = f := by omega
      have e2 : (rv + 1).toNat = g := by omega
      unfold arcsAt at HD
      dsimp only at HD
      rw [e1, e2] at HD
      clear e1 e2
      have EF := Lib.hid hf
      have EG := Lib.hid hg
      clear hf hg
      go_quiet (fail)
      go_wp2_with (at_builtin; refine wpList_append_arc (w := (wr.drewN _).alloc _) rfl _ _ rfl w.heap.size _ (arcsF xs k) rfl ?y1 wr.heap.size 1 ⟨k, 1, f, g, ra - la⟩ rfl ?y2 ?y3 ?y4 ?_)
      case y1 => exact (HO.out.below (below_draws (Below.refl _ _) _) (Nat.le_refl _)).alloc _
      case y2 => simp [EF.out, EG.out, World.alloc, World.drewN]
      case y3 => omega
      case y4 => simp; omega
      intro v1 w1 hown1 _ hb1
      obtain ⟨A2, c2, rfl⟩ := OwnE.slice hown1
      have HB1 := Lib.hid (HB.out.trans ((below_draws (Below.refl _ wr) _).trans (((Below.refl w.heap.size (wr.drewN _)).alloc hsz _).trans hb1)))
      have hsz1 : w.heap.size ≤ w1.heap.size := HB1.out.size
      have k0' := (HB1.out.cell (p := ⟨b, off + k * 5, none⟩) hbb).trans ((HB.out.cell (p := ⟨b, off + k * 5, none⟩) hbb).symm.trans k0)
      have HO1 := Lib.hid hown1
      clear hown1 hb1 k0 k1 k2 k3 k4 HO
      by_cases hq : q = 2
      · subst hq
        rw [if_pos rfl] at HD
        clear g1
        go_wp2_with (at_builtin; refine wpList_append_arc (w := w1.alloc _) rfl _ _ rfl w.heap.size _ (arcsF xs k ++ [⟨k, 1, f, g, ra - la⟩]) rfl ?y1 w1.heap.size 1 ⟨k, -1, g, f, -(ra - la)⟩ rfl ?y2 ?y3 ?y4 ?_)
        case y1 => exact HO1.out.alloc _
        case y2 => simp [EF.out, EG.out, World.alloc, -World.alloc_eq]
        case y3 => simp; omega
        case y4 => simp; omega
        intro v2 w2 hown2 _ hb2
        have HB2 := Lib.hid (HB1.out.trans (((Below.refl w.heap.size w1).alloc hsz1 _).trans hb2))
        have HO2 := Lib.hid hown2
        clear hown2 hb2
        go_wp2_with fail
        go_roundw
        case rel => exact ⟨k + 1, by omega, by go_num, by rw [HD.out]; simpa using HO2.out, HB2.out⟩
        case measure => simp [intOf]; omega
      · rw [if_neg hq] at HD
        have t2 : (q == 2) = false := by simp [hq]
        clear g1 hq
        go_wp2_with fail
        go_roundw
        case rel => exact ⟨k + 1, by omega, by go_num, by rw [HD.out]; exact HO1.out, HB1.out⟩
        case measure => simp [intOf]; omega
    · have e : k = xs.length := by omega
      subst e
      go_wp2_with fail
      go_ret
      exact ⟨_, rfl, hown, hb⟩

end Go.Proofs.Ytcmibhechhcpiaa
