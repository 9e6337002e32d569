/-
  Graphs, the program: the checks of AddNode, AddEdge, Union, Incident.
-/
import Derived.Test.YtiafmhdicgmfaaaGVal
namespace Go.Proofs.Ytiafmhdicgmfaaa
open Go.RowKit

theorem ne_beq {a b : Int} (h : a ≠ b) : (a == b) = false := beq_eq_false_iff_ne.2 h

set_option maxHeartbeats 1000000 in
theorem checkNode_any (g : Gr) (k : Int) (An : Option Addr) (cn : Nat) (Ae : Option Addr) (ce : Nat) (w : World) (hT : GrAt w An cn Ae ce g) :
    Calls Try.prog 39 #[gval An g.ns.length cn Ae g.es.length ce, .int .i64 k] w fun e w' => e = .returned (.int .i64 (addNE g k)) ∧ Below w.heap.size w w' := by
  have HV := Lib.hid (validP_any g An cn Ae ce _ (hT.up (((Below.refl _ _).alloc (Nat.le_refl _) (.cells #[.slice An g.ns.length cn, .slice Ae g.es.length ce] 25 (0, 0))))))
  have HI : Hid (∀ u, Calls Try.prog 43 #[.int .i64 k, .int .i64 100] u fun e w' => e = .returned (.bool (idxB k 100)) ∧ u = w') := Lib.hid fun u => isIndex_any k 100 u
  have HX : Hid (addNE g k = if validE g ≠ 0 then validE g else if idxB k 100 = false then 6 else if g.ns.length = 40 then 3 else 0) := Lib.hid rfl
  clear hT
  generalize addNE g k = R at HX ⊢
  generalize validE g = v at HV HX
  generalize idxB k 100 = z at HI HX
  go_enter Try.func39, Try.ntmps39
  go_wp2_with fail
  refine HV.out.mono ?_
  rintro e w1 ⟨rfl, hb1⟩
  have hb1' := below_one' hb1
  obtain ⟨c0, c1⟩ := box_cell hb1'
  have HB := Lib.hid (box_below hb1')
  clear hb1 hb1'
  by_cases hv : v = 0
  case neg =>
    have HR := Lib.hid (show R = v by rw [HX.out, if_pos hv])
    have t1 : ((v : Int) != 0) = true := by simp; omega
    clear hv
    go_wp2_with fail
    go_ret
    exact ⟨ret_int (by rw [HR.out]), HB.out⟩
  subst hv
  have HX2 := Lib.hid (show R = if z = false then 6 else if g.ns.length = 40 then 3 else 0 by rw [HX.out, if_neg (fun h => h rfl)])
  clear HX HV
  go_wp2_with fail
  refine (HI.out _).mono ?_
  rintro e w' ⟨rfl, rfl⟩
  cases z
  · have HR := Lib.hid (show R = 6 by rw [HX2.out, if_pos rfl])
    go_wp2_with fail
    go_ret
    exact ⟨ret_int (by rw [HR.out]; rfl), HB.out⟩
  · by_cases h : g.ns.length = 40
    · have HR := Lib.hid (show R = 3 by rw [HX2.out, if_neg (by simp), if_pos h])
      have t1 : ((g.ns.length : Int) == 40) = true := by simp; omega
      clear h
      go_wp2_with fail
      go_ret
      exact ⟨ret_int (by rw [HR.out]; rfl), HB.out⟩
    · have HR := Lib.hid (show R = 0 by rw [HX2.out, if_neg (by simp), if_neg h])
      have t1 : ((g.ns.length : Int) == 40) = false := ne_beq (by omega)
      clear h
      go_wp2_with fail
      go_ret
      exact ⟨ret_int (by rw [HR.out]; rfl), HB.out⟩

set_option maxHeartbeats 1000000 in
theorem checkEdge_any (g : Gr) (x : Ed) (An : Option Addr) (cn : Nat) (Ae : Option Addr) (ce : Nat) (w : World) (hT : GrAt w An cn Ae ce g) :
    Calls Try.prog 48 #[gval An g.ns.length cn Ae g.es.length ce, edv x] w fun e w' => e = .returned (.int .i64 (addEE g x)) ∧ Below w.heap.size w w' := by
  have hb0 : Below w.heap.size w ((w.alloc (.cells #[.slice An g.ns.length cn, .slice Ae g.es.length ce] 25 (0, 0))).alloc (.cells #[.int .i64 x.ty, .int .i64 x.fr, .int .i64 x.to] 36 (0, 0))) := ((Below.refl _ _).alloc (Nat.le_refl _) _).alloc (by simp) _
  have HB0 := Lib.hid hb0
  have HV := Lib.hid (validP_any g An cn Ae ce _ (hT.up hb0))
  have HI := Lib.hid (fun u => isEdge_any x An g.ns.length cn Ae g.es.length ce u)
  have HX : Hid (addEE g x = if validE g ≠ 0 then validE g else if edB x g.ns.length = false then 6 else if g.es.length = 80 then 3 else 0) := Lib.hid rfl
  clear hT hb0
  generalize addEE g x = R at HX ⊢
  generalize validE g = v at HV HX
  generalize edB x g.ns.length = z at HI HX
  obtain ⟨ty, fr, to⟩ := x
  dsimp only at *
  go_enter Try.func48, Try.ntmps48
  go_wp2_with fail
  refine HV.out.mono ?_
  rintro e w1 ⟨rfl, hb1⟩
  obtain ⟨b0, b1, hsz⟩ := boxes2 hb1
  obtain ⟨c0, c1⟩ := cell2 b0
  obtain ⟨c2, c3, c4⟩ := cell3 b1
  clear b0 b1
  have HB := Lib.hid (HB0.out.trans (hb1.mono (by simp; omega)))
  have HS := Lib.hid hsz
  clear hb1 hsz
  by_cases hv : v = 0
  case neg =>
    have HR := Lib.hid (show R = v by rw [HX.out, if_pos hv])
    have t1 : ((v : Int) != 0) = true := by simp; omega
    clear hv
    go_wp2_with fail
    go_ret
    exact ⟨ret_int (by rw [HR.out]), HB.out⟩
  subst hv
  have HX2 := Lib.hid (show R = if z = false then 6 else if g.es.length = 80 then 3 else 0 by rw [HX.out, if_neg (fun h => h rfl)])
  clear HX HV
  go_wp2_with fail
  refine (HI.out _).mono ?_
  rintro e w2 ⟨rfl, hb2⟩
  have d1 : w2.cell? ⟨w.heap.size, 1, none⟩ = some (.slice Ae g.es.length ce) := (hb2.cell (p := ⟨w.heap.size, 1, none⟩) (by have := HS.out; show w.heap.size < _; omega)).trans c1
  have HB2 := Lib.hid (HB.out.trans (hb2.mono (by have := HS.out; omega)))
  clear hb2 c0 c1 c2 c3 c4
  cases z
  · have HR := Lib.hid (show R = 6 by rw [HX2.out, if_pos rfl])
    go_wp2_with fail
    go_ret
    exact ⟨ret_int (by rw [HR.out]; rfl), HB2.out⟩
  · by_cases h : g.es.length = 80
    · have HR := Lib.hid (show R = 3 by rw [HX2.out, if_neg (by simp), if_pos h])
      have t1 : ((g.es.length : Int) == 80) = true := by simp; omega
      clear h
      go_wp2_with fail
      go_ret
      exact ⟨ret_int (by rw [HR.out]; rfl), HB2.out⟩
    · have HR := Lib.hid (show R = 0 by rw [HX2.out, if_neg (by simp), if_neg h])
      have t1 : ((g.es.length : Int) == 80) = false := ne_beq (by omega)
      clear h
      go_wp2_with fail
      go_ret
      exact ⟨ret_int (by rw [HR.out]; rfl), HB2.out⟩

set_option maxHeartbeats 1000000 in
theorem checkUnion_any (g h : Gr) (An : Option Addr) (cn : Nat) (Ae : Option Addr) (ce : Nat) (Bn : Option Addr) (dn : Nat) (Be : Option Addr) (de : Nat) (w : World) (hT : GrAt w An cn Ae ce g) (hU : GrAt w Bn dn Be de h) :
    Calls Try.prog 55 #[gval An g.ns.length cn Ae g.es.length ce, gval Bn h.ns.length dn Be h.es.length de] w fun e w' => e = .returned (.int .i64 (uniE g h)) ∧ Below w.heap.size w w' := by
  have hb0 : Below w.heap.size w ((w.alloc (.cells #[.slice An g.ns.length cn, .slice Ae g.es.length ce] 25 (0, 0))).alloc (.cells #[.slice Bn h.ns.length dn, .slice Be h.es.length de] 25 (0, 0))) := ((Below.refl _ _).alloc (Nat.le_refl _) _).alloc (by simp) _
  have HB0 := Lib.hid hb0
  have HV := Lib.hid (validP_any g An cn Ae ce _ (hT.up hb0))
  have HW := Lib.hid (fun u (hu : Below w.heap.size w u) => validP_any h Bn dn Be de u (hU.up hu))
  have HX : Hid (uniE g h = if validE g ≠ 0 then validE g else if validE h ≠ 0 then validE h else if 40 < g.ns.length + h.ns.length ∨ 80 < g.es.length + h.es.length then 3 else 0) := Lib.hid rfl
  have HZ := Lib.hid (fun e => valid_zero (g := g) e)
  have HZ2 := Lib.hid (fun e => valid_zero (g := h) e)
  clear hT hU hb0
  generalize uniE g h = R at HX ⊢
  generalize validE g = v at HV HX HZ
  generalize validE h = v2 at HW HX HZ2
  go_enter Try.func55, Try.ntmps55
  go_wp2_with fail
  refine HV.out.mono ?_
  rintro e w1 ⟨rfl, hb1⟩
  obtain ⟨b0, b1, hsz⟩ := boxes2 hb1
  obtain ⟨c0, c1⟩ := cell2 b0
  obtain ⟨c2, c3⟩ := cell2 b1
  have HB0' := Lib.hid b0
  have HB1' := Lib.hid b1
  clear b0 b1
  have HB := Lib.hid (HB0.out.trans (hb1.mono (by simp; omega)))
  have HS := Lib.hid hsz
  clear hb1 hsz
  by_cases hv : v = 0
  case neg =>
    have HR := Lib.hid (show R = v by rw [HX.out, if_pos hv])
    have t1 : ((v : Int) != 0) = true := by simp; omega
    clear hv
    go_wp2_with fail
    go_ret
    exact ⟨ret_int (by rw [HR.out]), HB.out⟩
  subst hv
  obtain ⟨q1, q2, _⟩ := HZ.out rfl
  have HX2 := Lib.hid (show R = if v2 ≠ 0 then v2 else if 40 < g.ns.length + h.ns.length ∨ 80 < g.es.length + h.es.length then 3 else 0 by rw [HX.out, if_neg (fun h => h rfl)])
  clear HX HV HZ
  go_wp2_with fail
  refine (HW.out _ HB.out).mono ?_
  rintro e w2 ⟨rfl, hb2⟩
  obtain ⟨d0, d1⟩ := cell2 (heap_up hb2 HB0'.out)
  obtain ⟨d2, d3⟩ := cell2 (heap_up hb2 HB1'.out)
  have HB2 := Lib.hid (HB.out.trans (hb2.mono (by have := HS.out; omega)))
  clear hb2 c0 c1 c2 c3
  by_cases hv : v2 = 0
  case neg =>
    have HR := Lib.hid (show R = v2 by rw [HX2.out, if_pos hv])
    have t1 : ((v2 : Int) != 0) = true := by simp; omega
    clear hv
    go_wp2_with fail
    go_ret
    exact ⟨ret_int (by rw [HR.out]), HB2.out⟩
  subst hv
  obtain ⟨q3, q4, _⟩ := HZ2.out rfl
  have HX3 := Lib.hid (show R = if 40 < g.ns.length + h.ns.length ∨ 80 < g.es.length + h.es.length then 3 else 0 by rw [HX2.out, if_neg (fun h => h rfl)])
  clear HX2 HW HZ2
  generalize g.ns.length = a1 at *
  generalize g.es.length = a2 at *
  generalize h.ns.length = b1 at *
  generalize h.es.length = b2 at *
  by_cases h1 : 40 < a1 + b1
  · have HR := Lib.hid (show R = 3 by rw [HX3.out, if_pos (.inl h1)])
    have t1 : decide (40 < (a1 : Int) + (b1 : Int)) = true := decide_eq_true (by omega)
    go_wp2_with fail
    go_ret
    exact ⟨ret_int (by rw [HR.out]; rfl), HB2.out⟩
  have t1 : decide (40 < (a1 : Int) + (b1 : Int)) = false := decide_eq_false (by omega)
  by_cases h2 : 80 < a2 + b2
  · have HR := Lib.hid (show R = 3 by rw [HX3.out, if_pos (.inr h2)])
    have t2 : decide (80 < (a2 : Int) + (b2 : Int)) = true := decide_eq_true (by omega)
    go_wp2_with fail
    go_ret
    exact ⟨ret_int (by rw [HR.out]; rfl), HB2.out⟩
  have t2 : decide (80 < (a2 : Int) + (b2 : Int)) = false := decide_eq_false (by omega)
  have HR := Lib.hid (show R = 0 by rw [HX3.out, if_neg (by omega)])
  go_wp2_with fail
  go_ret
  exact ⟨ret_int (by rw [HR.out]; rfl), HB2.out⟩

set_option maxHeartbeats 1000000 in
theorem checkIncident_any (g : Gr) (k : Int) (An : Option Addr) (cn : Nat) (Ae : Option Addr) (ce : Nat) (w : World) (hT : GrAt w An cn Ae ce g) :
    Calls Try.prog 58 #[gval An g.ns.length cn Ae g.es.length ce, .int .i64 k] w fun e w' => e = .returned (.int .i64 (incE g k)) ∧ Below w.heap.size w w' := by
  have HV := Lib.hid (validP_any g An cn Ae ce _ (hT.up (((Below.refl _ _).alloc (Nat.le_refl _) (.cells #[.slice An g.ns.length cn, .slice Ae g.es.length ce] 25 (0, 0))))))
  have HI := Lib.hid (fun u => isIndex_any k g.ns.length u)
  have HX : Hid (incE g k = if validE g ≠ 0 then validE g else if idxB k g.ns.length = false then 6 else 0) := Lib.hid rfl
  clear hT
  generalize incE g k = R at HX ⊢
  generalize validE g = v at HV HX
  generalize idxB k g.ns.length = z at HI HX
  go_enter Try.func58, Try.ntmps58
  go_wp2_with fail
  refine HV.out.mono ?_
  rintro e w1 ⟨rfl, hb1⟩
  have hb1' := below_one' hb1
  obtain ⟨c0, c1⟩ := box_cell hb1'
  have HB := Lib.hid (box_below hb1')
  clear hb1 hb1'
  by_cases hv : v = 0
  case neg =>
    have HR := Lib.hid (show R = v by rw [HX.out, if_pos hv])
    have t1 : ((v : Int) != 0) = true := by simp; omega
    clear hv
    go_wp2_with fail
    go_ret
    exact ⟨ret_int (by rw [HR.out]), HB.out⟩
  subst hv
  have HX2 := Lib.hid (show R = if z = false then 6 else 0 by rw [HX.out, if_neg (fun h => h rfl)])
  clear HX HV
  go_wp2_with fail
  refine (HI.out _).mono ?_
  rintro e w' ⟨rfl, rfl⟩
  cases z
  · have HR := Lib.hid (show R = 6 by rw [HX2.out, if_pos rfl])
    go_wp2_with fail
    go_ret
    exact ⟨ret_int (by rw [HR.out]; rfl), HB.out⟩
  · have HR := Lib.hid (show R = 0 by rw [HX2.out, if_neg (by simp)])
    go_wp2_with fail
    go_ret
    exact ⟨ret_int (by rw [HR.out]; rfl), HB.out⟩

end Go.Proofs.Ytiafmhdicgmfaaa
