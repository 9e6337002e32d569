/-
  Types: bound and edge of the reference.
-/
import Derived.Test.YtgpcaofikmdpjaaTNode
namespace Go.Proofs.Ytgpcaofikmdpjaa
open Go.RowKit

def boundS (lo hi : Int) : Bool := inB lo 0 40 && (decide (hi = -1) || inB hi lo 40)
def edgeR (x : Edg) (before : List Edg) (n : Int) : Nat :=
  if isNm x.nm = false then 2 else if before.any (fun y => decide (y.nm = x.nm)) then 5 else if (inB x.fr 0 (n - 1) && (inB x.to 0 (n - 1) && (boundS x.ol x.oh && boundS x.il x.ih))) = true then 0 else 6
/-- the error of the edge type number k -/
def edgeE (t : Typ) (k : Nat) : Nat := edgeR (t.edges.getD k default) (t.edges.take k) t.nodes.length

theorem bound_any (lo hi : Int) (w : World) : Calls Try.prog 57 #[.int .i64 lo, .int .i64 hi] w fun e w' => e = .returned (.bool (boundS lo hi)) ∧ w = w' := by
  have HI1 := Lib.hid (fun u => in_any lo 0 40 u)
  have HI2 := Lib.hid (fun u => in_any hi lo 40 u)
  have HX : Hid (boundS lo hi = (inB lo 0 40 && (decide (hi = -1) || inB hi lo 40))) := Lib.hid rfl
  generalize boundS lo hi = R at HX ⊢
  generalize inB lo 0 40 = b1 at HI1 HX
  generalize inB hi lo 40 = b2 at HI2 HX
  cases b1
  case false =>
    go_enter Try.func57, Try.ntmps57
    go_wp2_with fail
    refine (HI1.out _).mono ?_
    rintro e w1 ⟨rfl, rfl⟩
    go_wp2_with fail
    go_ret
    exact ⟨ret_bool (by rw [HX.out]; rfl), rfl⟩
  case true =>
    by_cases hm : hi = -1
    · subst hm
      go_enter Try.func57, Try.ntmps57
      go_wp2_with fail
      refine (HI1.out _).mono ?_
      rintro e w1 ⟨rfl, rfl⟩
      go_wp2_with fail
      go_ret
      exact ⟨ret_bool (by rw [HX.out]; rfl), rfl⟩
    · have t1 : (hi == -1) = false := by simp [hm]
      have HX2 : Hid (R = b2) := Lib.hid (by rw [HX.out, decide_eq_false hm]; rfl)
      clear HX hm
      go_enter Try.func57, Try.ntmps57
      go_wp2_with fail
      refine (HI1.out _).mono ?_
      rintro e w1 ⟨rfl, rfl⟩
      go_wp2_with fail
      refine (HI2.out _).mono ?_
      rintro e w1 ⟨rfl, rfl⟩
      go_wp2_with fail
      go_ret
      exact ⟨ret_bool HX2.out.symm, rfl⟩

/-- the boxes of a type graph and of one of its edge types -/
def EdgeC (w : World) (An : Option Addr) (N cn b1 off M ce : Nat) (x : Edg) (u : World) : Prop :=
  u.cell? ⟨w.heap.size, 0, none⟩ = some (.slice An N cn) ∧ u.cell? ⟨w.heap.size, 1, none⟩ = some (.slice (some ⟨b1, off, none⟩) M ce) ∧ u.cell? ⟨w.heap.size + 1, 0, none⟩ = some (.string x.nm) ∧ u.cell? ⟨w.heap.size + 1, 1, none⟩ = some (.int .i64 x.fr) ∧ u.cell? ⟨w.heap.size + 1, 2, none⟩ = some (.int .i64 x.to) ∧
    u.cell? ⟨w.heap.size + 1, 3, none⟩ = some (.int .i64 x.ol) ∧ u.cell? ⟨w.heap.size + 1, 4, none⟩ = some (.int .i64 x.oh) ∧ u.cell? ⟨w.heap.size + 1, 5, none⟩ = some (.int .i64 x.il) ∧ u.cell? ⟨w.heap.size + 1, 6, none⟩ = some (.int .i64 x.ih)
theorem edgeC_of {w u : World} {An : Option Addr} {N cn b1 off M ce : Nat} {x : Edg}
    (h : Below (w.heap.size + 1 + 1) ((w.alloc (.cells #[.slice An N cn, .slice (some ⟨b1, off, none⟩) M ce] 25 (0, 0))).alloc (.cells #[.string x.nm, .int .i64 x.fr, .int .i64 x.to, .int .i64 x.ol, .int .i64 x.oh, .int .i64 x.il, .int .i64 x.ih] 60 (0, 0))) u) : EdgeC w An N cn b1 off M ce x u := by
  have e1 : ∀ j, ((w.alloc (.cells #[.slice An N cn, .slice (some ⟨b1, off, none⟩) M ce] 25 (0, 0))).alloc (.cells #[.string x.nm, .int .i64 x.fr, .int .i64 x.to, .int .i64 x.ol, .int .i64 x.oh, .int .i64 x.il, .int .i64 x.ih] 60 (0, 0))).cell? ⟨w.heap.size, j, none⟩ = (#[Value.slice An N cn, .slice (some ⟨b1, off, none⟩) M ce])[j]? := fun j => cell_of_row _ _ _ _ _ _ (heap_two _ _ _)
  have e2 : ∀ j, ((w.alloc (.cells #[.slice An N cn, .slice (some ⟨b1, off, none⟩) M ce] 25 (0, 0))).alloc (.cells #[.string x.nm, .int .i64 x.fr, .int .i64 x.to, .int .i64 x.ol, .int .i64 x.oh, .int .i64 x.il, .int .i64 x.ih] 60 (0, 0))).cell? ⟨w.heap.size + 1, j, none⟩ = (#[Value.string x.nm, .int .i64 x.fr, .int .i64 x.to, .int .i64 x.ol, .int .i64 x.oh, .int .i64 x.il, .int .i64 x.ih])[j]? := fun j => cell_of_row _ _ _ _ _ _ (heap_two' _ _ _)
  have f1 : ∀ j, u.cell? ⟨w.heap.size, j, none⟩ = (#[Value.slice An N cn, .slice (some ⟨b1, off, none⟩) M ce])[j]? := fun j => (h.cell (p := ⟨w.heap.size, j, none⟩) (by show w.heap.size < _; omega)).trans (e1 j)
  have f2 : ∀ j, u.cell? ⟨w.heap.size + 1, j, none⟩ = (#[Value.string x.nm, .int .i64 x.fr, .int .i64 x.to, .int .i64 x.ol, .int .i64 x.oh, .int .i64 x.il, .int .i64 x.ih])[j]? := fun j => (h.cell (p := ⟨w.heap.size + 1, j, none⟩) (by show w.heap.size + 1 < _; omega)).trans (e2 j)
  exact ⟨f1 0, f1 1, f2 0, f2 1, f2 2, f2 3, f2 4, f2 5, f2 6⟩

set_option maxRecDepth 100000 in
set_option maxHeartbeats 4000000 in
theorem edge_any (hn : NameC 55) (t : Typ) (An : Option Addr) (cn : Nat) (Ae : Option Addr) (ce k : Nat) (hk : k < t.edges.length) (hf : FewT t) (w : World) (hT : Edgs w w.heap.size Ae t.edges) :
    Calls Try.prog 36 #[tyval An t.nodes.length cn Ae t.edges.length ce, .int .i64 k] w fun e w' => e = .returned (.int .i64 (edgeE t k)) ∧ Below w.heap.size w w' := by
  have hsm := hf.edge _ (List.getElem_mem hk)
  have HX : Hid (edgeE t k = edgeR t.edges[k] (t.edges.take k) t.nodes.length) := Lib.hid (by unfold edgeE; rw [getD_at hk])
  obtain ⟨b1, off, rfl, hbb, k0, k1, k2, k3, k4, k5, k6⟩ := Edgs.cells hT hk
  have HT := Lib.hid hT
  have HNOD : Hid (∀ (u : World), Below w.heap.size w u → ∀ (j : Nat) (hj : j < t.edges.length), u.cell? ⟨b1, off + j * 7, none⟩ = some (.string t.edges[j].nm)) := Lib.hid fun u hu j hj => by
    obtain ⟨b', off', hE, _, j0, _⟩ := Edgs.cells (Reads.below HT.out hu) hj
    simp only [Option.some.injEq, Addr.mk.injEq, and_true] at hE
    obtain ⟨rfl, rfl⟩ := hE
    exact j0
  have HEQ : Hid (∀ (j : Nat) (hj : j < t.edges.length), j < k → t.edges[j].nm = t.edges[k].nm → (t.edges.take k).any (fun y => decide (y.nm = t.edges[k].nm)) = true) := Lib.hid fun j hj hjk h => any_take hjk hj (decide_eq_true h)
  have HNE : Hid (∀ (j : Nat) (hj : j < t.edges.length), (∀ y ∈ t.edges.take j, decide (y.nm = t.edges[k].nm) = false) → ¬ t.edges[j].nm = t.edges[k].nm → ∀ y ∈ t.edges.take (j + 1), decide (y.nm = t.edges[k].nm) = false) := Lib.hid fun j hj h h2 => none_take hj h (decide_eq_false h2)
  have HNM := Lib.hid (fun u => hn t.edges[k].nm u hsm)
  have hn20 := hf.nodes
  have hm30 := hf.edges
  clear hT hn hf
  generalize edgeE t k = R at HX ⊢
  generalize t.edges[k] = x at *
  obtain ⟨nm, fr, to, ol, oh, il, ih⟩ := x
  unfold edgeR at HX
  dsimp only at *
  obtain ⟨N, hN⟩ : ∃ N, N = t.nodes.length := ⟨_, rfl⟩
  obtain ⟨M, hM⟩ : ∃ M, M = t.edges.length := ⟨_, rfl⟩
  have HM := Lib.hid hM
  rw [← hN] at HX hn20 ⊢
  rw [← hM] at hk hm30 ⊢
  clear hM hN hsm
  have i0 : (0 : Int) ≤ (k : Int) := by omega
  have i1 : (k : Int) < (M : Int) := by omega
  have i2 : ((k : Int)).toNat = k := by omega
  have HBW : Hid (∀ (o1 o2 : Obj) (u : World), Below (w.heap.size + 1 + 1) ((w.alloc o1).alloc o2) u → Below w.heap.size w u) := Lib.hid fun o1 o2 u h => (((Below.refl w.heap.size w).alloc (Nat.le_refl _) o1).alloc (by simp) o2).trans (h.mono (by omega))
  have HI1 := Lib.hid (fun u => in_any fr 0 ((N : Int) - 1) u)
  have HI2 := Lib.hid (fun u => in_any to 0 ((N : Int) - 1) u)
  have HI3 := Lib.hid (fun u => bound_any ol oh u)
  have HI4 := Lib.hid (fun u => bound_any il ih u)
  generalize inB fr 0 ((N : Int) - 1) = p1 at HX HI1
  generalize inB to 0 ((N : Int) - 1) = p2 at HX HI2
  generalize boundS ol oh = p3 at HX HI3
  generalize boundS il ih = p4 at HX HI4
  cases hnm : isNm nm with
  | false =>
    have HR : Hid (R = 2) := Lib.hid (by rw [HX.out, if_pos hnm])
    rw [hnm] at HNM
    clear hnm HX HNOD HEQ HNE
    go_enter Try.func36, Try.ntmps36
    go_wp2_with fail
    refine (HNM.out _).mono ?_
    rintro e w1 ⟨rfl, hb1⟩
    have HB1 := Lib.hid (HBW.out _ _ _ (below_two hb1))
    clear hb1
    go_wp2_with fail
    go_ret
    exact ⟨ret_int (by rw [HR.out]; rfl), HB1.out⟩
  | true =>
    have HR : Hid (R = if (t.edges.take k).any (fun y => decide (y.nm = nm)) then 5 else if (p1 && (p2 && (p3 && p4))) = true then 0 else 6) := Lib.hid (by rw [HX.out, if_neg (by rw [hnm]; simp)])
    rw [hnm] at HNM
    clear hnm HX
    go_enter Try.func36, Try.ntmps36
    go_wp2_with fail
    refine (HNM.out _).mono ?_
    rintro e w1 ⟨rfl, hb1⟩
    have HC1 : Hid (∀ u, Below (w.heap.size + 1 + 1) w1 u → EdgeC w An N cn b1 off M ce ⟨nm, fr, to, ol, oh, il, ih⟩ u) := Lib.hid fun u hu => edgeC_of ((below_two hb1).trans hu)
    have HBU : Hid (∀ u, Below (w.heap.size + 1 + 1) w1 u → Below w.heap.size w u) := Lib.hid fun u hu => HBW.out _ _ _ ((below_two hb1).trans hu)
    clear hb1 HNM HBW k0 k1 k2 k3 k4 k5 k6
    obtain ⟨c0, c1, c2, c3, c4, c5, c6, c7, c8⟩ := HC1.out w1 (Below.refl _ _)
    go_wp2_with fail
    go_loopw [6] (fun jj ws => ∃ j : Nat, j ≤ k ∧ jj = .int .i64 j ∧ (∀ y ∈ t.edges.take j, decide (y.nm = nm) = false) ∧ Below (w.heap.size + 1 + 1) w1 ws) (fun jj _ => k - (intOf jj).toNat)
    case atStart => exact ⟨0, Nat.zero_le _, rfl, (fun y hy => by simp at hy), Below.refl _ _⟩
    case round =>
      obtain ⟨j, hj, rfl, hno, hB⟩ := hrel
      obtain ⟨d0, d1, d2, d3, d4, d5, d6, d7, d8⟩ := HC1.out wr hB
      dsimp only at d2 d3 d4 d5 d6 d7 d8
      clear c0 c1 c2 c3 c4 c5 c6 c7 c8
      by_cases hjk : j < k
      · have hjl : j < t.edges.length := by have := HM.out; omega
        have j0 := HNOD.out wr (HBU.out wr hB) j hjl
        have n0 : (0 : Int) ≤ (j : Int) := by omega
        have n1 : (j : Int) < (M : Int) := by omega
        have n2 : ((j : Int)).toNat = j := by omega
        have t1 : decide ((j : Int) < (k : Int)) = true := decide_eq_true (by omega)
        have HB := Lib.hid hB
        have HYES : Hid (t.edges[j].nm = nm → R = 5) := Lib.hid fun h => by rw [HR.out, if_pos (HEQ.out j hjl hjk h)]
        have HNO := Lib.hid (HNE.out j hjl hno)
        generalize t.edges[j].nm = y at j0 HYES HNO
        clear hno hB
        by_cases hys : y = nm
        · subst hys
          have HR5 := Lib.hid (HYES.out rfl)
          clear HYES HNO
          go_wp2_with fail
          go_quiet (fail)
          go_wp2_with fail
          go_ret
          exact ⟨ret_int (by rw [HR5.out]; rfl), HBU.out _ (below_draws HB.out _)⟩
        · have HX := Lib.hid (HNO.out hys)
          have t2 := str_ne hys
          clear HYES HNO
          go_wp2_with fail
          go_quiet (fail)
          go_wp2_with fail
          go_roundw
          case rel => exact ⟨j + 1, by omega, by go_num, HX.out, below_draws HB.out _⟩
          case measure => simp [intOf]; omega
      · have t1 : decide ((j : Int) < (k : Int)) = false := decide_eq_false (by omega)
        have e : j = k := by omega
        subst e
        have HR2 : Hid (R = if (p1 && (p2 && (p3 && p4))) = true then 0 else 6) := Lib.hid (by rw [HR.out, any_none hno]; rfl)
        have HB := Lib.hid hB
        clear hno hB HR HEQ HNE HNOD
        cases p1
        case false =>
          go_wp2_with fail
          refine (HI1.out _).mono ?_
          rintro e w2 ⟨rfl, rfl⟩
          go_wp2_with fail
          go_ret
          exact ⟨ret_int (by rw [HR2.out]; rfl), HBU.out _ HB.out⟩
        case true =>
          cases p2
          case false =>
            go_wp2_with fail
            refine (HI1.out _).mono ?_
            rintro e w2 ⟨rfl, rfl⟩
            go_wp2_with fail
            refine (HI2.out _).mono ?_
            rintro e w2 ⟨rfl, rfl⟩
            go_wp2_with fail
            go_ret
            exact ⟨ret_int (by rw [HR2.out]; rfl), HBU.out _ HB.out⟩
          case true =>
            cases p3
            case false =>
              go_wp2_with fail
              refine (HI1.out _).mono ?_
              rintro e w2 ⟨rfl, rfl⟩
              go_wp2_with fail
              refine (HI2.out _).mono ?_
              rintro e w2 ⟨rfl, rfl⟩
              go_wp2_with fail
              refine (HI3.out _).mono ?_
              rintro e w2 ⟨rfl, rfl⟩
              go_wp2_with fail
              go_ret
              exact ⟨ret_int (by rw [HR2.out]; rfl), HBU.out _ HB.out⟩
            case true =>
              cases p4
              all_goals
                go_wp2_with fail
                refine (HI1.out _).mono ?_
                rintro e w2 ⟨rfl, rfl⟩
                go_wp2_with fail
                refine (HI2.out _).mono ?_
                rintro e w2 ⟨rfl, rfl⟩
                go_wp2_with fail
                refine (HI3.out _).mono ?_
                rintro e w2 ⟨rfl, rfl⟩
                go_wp2_with fail
                refine (HI4.out _).mono ?_
                rintro e w2 ⟨rfl, rfl⟩
                go_wp2_with fail
                go_ret
                exact ⟨ret_int (by rw [HR2.out]; rfl), HBU.out _ HB.out⟩

end Go.Proofs.Ytgpcaofikmdpjaa
