/-
  Types, the program: checkEdge.
-/
import Derived.Test.YtgpcaofikmdpjaaQPrim
import Derived.Test.YtgpcaofikmdpjaaQName
namespace Go.Proofs.Ytgpcaofikmdpjaa
open Go.RowKit

theorem edge_chk (x : Edg) (before : List Edg) (n : Int) : edgeR x before n = if chkR x.nm (before.any fun y => decide (y.nm = x.nm)) ≠ 0 then chkR x.nm (before.any fun y => decide (y.nm = x.nm)) else if (inB x.fr 0 (n - 1) && (inB x.to 0 (n - 1) && (boundS x.ol x.oh && boundS x.il x.ih))) = true then 0 else 6 := by
  unfold edgeR chkR
  generalize isNm x.nm = a
  generalize (before.any fun y => decide (y.nm = x.nm)) = b
  cases a <;> cases b <;> simp

set_option maxRecDepth 100000 in
set_option maxHeartbeats 2000000 in
theorem checkEdge_any (hn : NameC 60) (t : Typ) (Ae : Option Addr) (ce k : Nat) (hk : k < t.edges.length) (hf : FewT t) (w : World) (hT : Edgs w w.heap.size Ae t.edges) :
    Calls Try.prog 34 #[.int .i64 t.nodes.length, .slice Ae k ce, .agg #[.string t.edges[k].nm, .int .i64 t.edges[k].fr, .int .i64 t.edges[k].to, .int .i64 t.edges[k].ol, .int .i64 t.edges[k].oh, .int .i64 t.edges[k].il, .int .i64 t.edges[k].ih]] w fun e w' => e = .returned (.int .i64 (edgeE t k)) ∧ Below w.heap.size w w' := by
  have hsm := hf.edge _ (List.getElem_mem hk)
  have hk30 : k ≤ 30 := by have := hf.edges; omega
  have HX : Hid (edgeE t k = _) := Lib.hid ((show edgeE t k = edgeR t.edges[k] (t.edges.take k) t.nodes.length by unfold edgeE; rw [getD_at hk]).trans (edge_chk _ _ _))
  have HCN : Hid (∀ u, Below w.heap.size w u → Calls Try.prog 52 #[.slice Ae k ce, .agg #[.string t.edges[k].nm, .int .i64 t.edges[k].fr, .int .i64 t.edges[k].to, .int .i64 t.edges[k].ol, .int .i64 t.edges[k].oh, .int .i64 t.edges[k].il, .int .i64 t.edges[k].ih], .func (.func 53) #[] #[]] u fun e w' => e = .returned (.int .i64 (chkR t.edges[k].nm ((t.edges.take k).any fun y => decide (y.nm = t.edges[k].nm)))) ∧ Below u.heap.size u w') := Lib.hid fun u hu => by
    have h := checkE_any hn (t.edges.take k) Ae ce t.edges[k].nm t.edges[k].fr t.edges[k].to t.edges[k].ol t.edges[k].oh t.edges[k].il t.edges[k].ih u (by rw [List.length_take]; omega) hsm (Reads.take (Reads.up hT hu) k)
    rw [List.length_take, Nat.min_eq_left (Nat.le_of_lt hk)] at h
    exact h
  have HI1 := Lib.hid (fun u => isIndex_any t.edges[k].fr t.nodes.length u)
  have HI2 := Lib.hid (fun u => isIndex_any t.edges[k].to t.nodes.length u)
  have HI3 := Lib.hid (fun u => areBounds_any t.edges[k].ol t.edges[k].oh u)
  have HI4 := Lib.hid (fun u => areBounds_any t.edges[k].il t.edges[k].ih u)
  clear hT hn hf hsm
  generalize edgeE t k = R at HX ⊢
  generalize t.nodes.length = N at *
  generalize t.edges[k] = x at *
  obtain ⟨nm, fr, to, ol, oh, il, ih⟩ := x
  dsimp only at *
  generalize ((t.edges.take k).any fun y => decide (y.nm = nm)) = b0 at *
  generalize chkR nm b0 = e1 at *
  generalize inB fr 0 ((N : Int) - 1) = z1 at *
  generalize inB to 0 ((N : Int) - 1) = z2 at *
  generalize boundS ol oh = z3 at *
  generalize boundS il ih = z4 at *
  have HB0 := Lib.hid (fun (o : Obj) => (Below.refl w.heap.size w).alloc (Nat.le_refl _) o)
  have HBX : Hid (∀ u, Below (w.heap.size + 1) (w.alloc (.cells #[.string nm, .int .i64 fr, .int .i64 to, .int .i64 ol, .int .i64 oh, .int .i64 il, .int .i64 ih] 60 (0, 0))) u → u.cell? ⟨w.heap.size, 0, none⟩ = some (.string nm) ∧ u.cell? ⟨w.heap.size, 1, none⟩ = some (.int .i64 fr) ∧ u.cell? ⟨w.heap.size, 2, none⟩ = some (.int .i64 to) ∧ u.cell? ⟨w.heap.size, 3, none⟩ = some (.int .i64 ol) ∧ u.cell? ⟨w.heap.size, 4, none⟩ = some (.int .i64 oh) ∧ u.cell? ⟨w.heap.size, 5, none⟩ = some (.int .i64 il) ∧ u.cell? ⟨w.heap.size, 6, none⟩ = some (.int .i64 ih)) := Lib.hid fun u hu =>
    ⟨(hu.cell (p := ⟨w.heap.size, 0, none⟩) (by simp)).trans (by simp), (hu.cell (p := ⟨w.heap.size, 1, none⟩) (by simp)).trans (by simp), (hu.cell (p := ⟨w.heap.size, 2, none⟩) (by simp)).trans (by simp), (hu.cell (p := ⟨w.heap.size, 3, none⟩) (by simp)).trans (by simp), (hu.cell (p := ⟨w.heap.size, 4, none⟩) (by simp)).trans (by simp), (hu.cell (p := ⟨w.heap.size, 5, none⟩) (by simp)).trans (by simp), (hu.cell (p := ⟨w.heap.size, 6, none⟩) (by simp)).trans (by simp)⟩
  go_enter Try.func34, Try.ntmps34
  go_wp2_with fail
  refine (HCN.out _ (HB0.out _)).mono ?_
  rintro e w1 ⟨rfl, hb2⟩
  have HB1 := Lib.hid (below_one' hb2)
  obtain ⟨d0, d1, d2, d3, d4, d5, d6⟩ := HBX.out _ HB1.out
  clear hb2 HCN
  by_cases h1 : e1 = 0
  case neg =>
    have HR2 : Hid (R = e1) := Lib.hid (by rw [HX.out, if_pos h1])
    have t3 : ((e1 : Int) != 0) = true := by simp; omega
    clear HX h1
    go_wp2_with fail
    go_ret
    exact ⟨ret_int (by rw [HR2.out]), box_below HB1.out⟩
  have HR1 : Hid (R = if (z1 && (z2 && (z3 && z4))) = true then 0 else 6) := Lib.hid (by rw [HX.out, if_neg (fun h => h h1)])
  subst h1
  clear HX
  go_wp2_with fail
  refine (HI1.out _).mono ?_
  rintro e w2 ⟨rfl, rfl⟩
  cases z1
  case false =>
    go_wp2_with fail
    go_ret
    exact ⟨ret_int (by rw [HR1.out]; rfl), box_below HB1.out⟩
  go_wp2_with fail
  refine (HI2.out _).mono ?_
  rintro e w2 ⟨rfl, rfl⟩
  cases z2
  case false =>
    go_wp2_with fail
    go_ret
    exact ⟨ret_int (by rw [HR1.out]; rfl), box_below HB1.out⟩
  go_wp2_with fail
  refine (HI3.out _).mono ?_
  rintro e w2 ⟨rfl, rfl⟩
  cases z3
  case false =>
    go_wp2_with fail
    go_ret
    exact ⟨ret_int (by rw [HR1.out]; rfl), box_below HB1.out⟩
  go_wp2_with fail
  refine (HI4.out _).mono ?_
  rintro e w2 ⟨rfl, rfl⟩
  cases z4
  case false =>
    go_wp2_with fail
    go_ret
    exact ⟨ret_int (by rw [HR1.out]; rfl), box_below HB1.out⟩
  go_wp2_with fail
  go_ret
  exact ⟨ret_int (by rw [HR1.out]; rfl), box_below HB1.out⟩

end Go.Proofs.Ytgpcaofikmdpjaa
