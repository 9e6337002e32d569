/-
  Types, the program: Valid.
-/
import Derived.Test.YtgpcaofikmdpjaaQNode
import Derived.Test.YtgpcaofikmdpjaaQEdge
namespace Go.Proofs.Ytgpcaofikmdpjaa
open Go.RowKit

/-- what the region of Valid's second loop keeps -/
abbrev VeS (w wz : World) (An : Option Addr) (N cn : Nat) (Ae : Option Addr) (M ce : Nat) (nm : ByteArray) (fr to ol oh il ih : Int) (b : Nat) (u : World) : Prop :=
  (u.cell? ⟨w.heap.size, 0, none⟩ = some (.slice An N cn) ∧ u.cell? ⟨w.heap.size, 1, none⟩ = some (.slice Ae M ce)) ∧ (u.cell? ⟨b, 0, none⟩ = some (.string nm) ∧ u.cell? ⟨b, 1, none⟩ = some (.int .i64 fr) ∧ u.cell? ⟨b, 2, none⟩ = some (.int .i64 to) ∧ u.cell? ⟨b, 3, none⟩ = some (.int .i64 ol) ∧ u.cell? ⟨b, 4, none⟩ = some (.int .i64 oh) ∧ u.cell? ⟨b, 5, none⟩ = some (.int .i64 il) ∧ u.cell? ⟨b, 6, none⟩ = some (.int .i64 ih)) ∧ Below wz.heap.size wz u
/-- what the region of Valid's first loop keeps -/
abbrev VnS (w wz : World) (An : Option Addr) (N cn : Nat) (Ae : Option Addr) (M ce : Nat) (nm : ByteArray) (par : Int) (ab : Bool) (A' : Option Addr) (q c' : Nat) (b : Nat) (u : World) : Prop :=
  (u.cell? ⟨w.heap.size, 0, none⟩ = some (.slice An N cn) ∧ u.cell? ⟨w.heap.size, 1, none⟩ = some (.slice Ae M ce)) ∧ (u.cell? ⟨b, 0, none⟩ = some (.string nm) ∧ u.cell? ⟨b, 1, none⟩ = some (.int .i64 par) ∧ u.cell? ⟨b, 2, none⟩ = some (.bool ab) ∧ u.cell? ⟨b, 3, none⟩ = some (.slice A' q c')) ∧ Below wz.heap.size wz u

set_option maxRecDepth 100000 in
set_option maxHeartbeats 4000000 in
theorem validP_any (hn : NameC 60) : ValC 13 := by
  intro t An cn Ae ce w hf hcap hT
  have HT := Lib.hid hT
  have HX : Hid (validR t = if t.nodes.length = 0 then (7, ⟨#[]⟩) else if 12 < t.nodes.length ∨ 20 < t.edges.length then (3, ⟨#[]⟩) else nodesR t 0 (t.nodes.length - 0)) := Lib.hid rfl
  generalize validR t = R at HX ⊢
  have HNS : Hid (∀ i, i < t.nodes.length → nodesR t i (t.nodes.length - i) = if nodeE t i ≠ 0 then (nodeE t i, (t.nodes.getD i default).nm) else nodesR t (i + 1) (t.nodes.length - (i + 1))) := Lib.hid fun i hi => resD_step hi
  have HES : Hid (∀ i, i < t.edges.length → edgesR t i (t.edges.length - i) = if edgeE t i ≠ 0 then (edgeE t i, (t.edges.getD i default).nm) else edgesR t (i + 1) (t.edges.length - (i + 1))) := Lib.hid fun i hi => resD_step hi
  have HNZ : Hid (∀ i, t.nodes.length ≤ i → nodesR t i (t.nodes.length - i) = edgesR t 0 (t.edges.length - 0)) := Lib.hid fun i hi => resD_end hi
  have HEZ : Hid (∀ i, t.edges.length ≤ i → edgesR t i (t.edges.length - i) = (0, ⟨#[]⟩)) := Lib.hid fun i hi => resD_end hi
  have HNA := Lib.hid (fun (k : Nat) (hk : k < t.nodes.length) (h : ∀ j, j < k → nodeE t j = 0) (A' : Option Addr) (c' : Nat) (u : World) (hu : TyC u An Ae t) hat => checkNode_any hn t An cn k hk (fun i hi => node_good (h i hi)) hf A' c' u hu.1 hat)
  have HEA := Lib.hid (fun (k : Nat) (hk : k < t.edges.length) (u : World) (hu : TyC u An Ae t) => checkEdge_any hn t Ae ce k hk hf u hu.2)
  have hn20 := hf.nodes
  have hm30 := hf.edges
  obtain ⟨hc1, hc2⟩ := hcap
  clear hT hn hf
  by_cases h0 : t.nodes.length = 0
  case pos =>
    have HR : Hid (R = (7, ⟨#[]⟩)) := Lib.hid (by rw [HX.out, if_pos h0])
    rw [h0]
    clear HX
    go_enter Try.func13, Try.ntmps13
    go_wp2_with fail
    go_ret2
    exact ⟨(ret_res HR.out).symm, (Below.refl _ _).alloc (Nat.le_refl _) _⟩
  have t0 : ((t.nodes.length : Int) == 0) = false := beq_eq_false_iff_ne.2 (by omega)
  by_cases h12 : 12 < t.nodes.length
  case pos =>
    have HR : Hid (R = (3, ⟨#[]⟩)) := Lib.hid (by rw [HX.out, if_neg h0, if_pos (.inl h12)])
    have t1 : decide (12 < (t.nodes.length : Int)) = true := decide_eq_true (by omega)
    clear HX
    go_enter Try.func13, Try.ntmps13
    go_wp2_with fail
    go_ret2
    exact ⟨(ret_res HR.out).symm, (Below.refl _ _).alloc (Nat.le_refl _) _⟩
  have t1 : decide (12 < (t.nodes.length : Int)) = false := decide_eq_false (by omega)
  by_cases h20 : 20 < t.edges.length
  case pos =>
    have HR : Hid (R = (3, ⟨#[]⟩)) := Lib.hid (by rw [HX.out, if_neg h0, if_pos (.inr h20)])
    have t2 : decide (20 < (t.edges.length : Int)) = true := decide_eq_true (by omega)
    clear HX
    go_enter Try.func13, Try.ntmps13
    go_wp2_with fail
    go_ret2
    exact ⟨(ret_res HR.out).symm, (Below.refl _ _).alloc (Nat.le_refl _) _⟩
  have t2 : decide (20 < (t.edges.length : Int)) = false := decide_eq_false (by omega)
  have HR0 : Hid (R = nodesR t 0 (t.nodes.length - 0)) := Lib.hid (by rw [HX.out, if_neg h0, if_neg (by omega)])
  clear HX
  go_enter Try.func13, Try.ntmps13
  go_wp2_with fail
  clear t0 t1 t2
  go_loopw [29] (fun vi wr => ∃ i : Nat, i ≤ t.nodes.length ∧ vi = .int .i64 i ∧ R = nodesR t i (t.nodes.length - i) ∧ (∀ j, j < i → nodeE t j = 0) ∧ Below (w.heap.size + 1) (w.alloc (.cells #[.slice An t.nodes.length cn, .slice Ae t.edges.length ce] 25 (0, 0))) wr) (fun vi _ => t.nodes.length - (intOf vi).toNat)
  case atStart => exact ⟨0, Nat.zero_le _, rfl, HR0.out, (fun j hj => by omega), Below.refl _ _⟩
  case round =>
    obtain ⟨i, hi, rfl, hR, hno, hB⟩ := hrel
    obtain ⟨c0, c1⟩ := box_cell hB
    have hW := box_below hB
    clear HR0
    by_cases hlt : i < t.nodes.length
    · have t1 : decide ((i : Int) < (t.nodes.length : Int)) = true := decide_eq_true (by omega)
      obtain ⟨b1, off, A', c', rfl, hbb, m0, m1, m2, m3, hat⟩ := Nods.cells (HT.out.up hW).1 hlt
      have HNI := Lib.hid (HNA.out i hlt hno A' c')
      rw [HNS.out i hlt, getD_at hlt] at hR
      have HRS := Lib.hid hR
      have HTW := Lib.hid (HT.out.up hW)
      have HAT := Lib.hid hat
      have HNO := Lib.hid hno
      generalize t.nodes[i] = x at *
      obtain ⟨nm, par, ab, att⟩ := x
      dsimp only at *
      obtain ⟨ee, hee⟩ : ∃ ee, ee = nodeE t i := ⟨_, rfl⟩
      have HEE := Lib.hid hee
      rw [← hee] at HNI HRS
      obtain ⟨q, hq⟩ : ∃ q, q = att.length := ⟨_, rfl⟩
      rw [← hq] at m3 HNI
      have HB := Lib.hid hB
      have i0 : (0 : Int) ≤ (i : Int) := by omega
      have i1 : (i : Int) < (t.nodes.length : Int) := by omega
      have i2 : ((i : Int)).toNat = i := by omega
      have i3 : (i : Int) ≤ (cn : Int) := by omega
      have hsz : w.heap.size + 1 ≤ wr.heap.size := by have := hB.size; simpa using this
      have hbz : b1 < wr.heap.size := hbb
      clear hB hR hat hno hW hee hq
      obtain ⟨wz, hwz⟩ : ∃ wz, wz = wr.alloc (.cells #[.string nm, .int .i64 par, .bool ab, .slice A' q c'] 55 (0, 0)) := ⟨_, rfl⟩
      have HBZ : Hid (Below (w.heap.size + 1) (w.alloc (.cells #[.slice (some ⟨b1, off, none⟩) t.nodes.length cn, .slice Ae t.edges.length ce] 25 (0, 0))) wz) := Lib.hid (by rw [hwz]; exact HB.out.alloc hsz _)
      have HBWZ : Hid (Below wr.heap.size wr wz) := Lib.hid (by rw [hwz]; exact (Below.refl _ _).alloc (Nat.le_refl _) _)
      have hzz : wz.heap.size = wr.heap.size + 1 := by rw [hwz]; simp
      have HZC : Hid (∀ u, Below wz.heap.size wz u → VnS w wz (some ⟨b1, off, none⟩) t.nodes.length cn Ae t.edges.length ce nm par ab A' q c' wr.heap.size u) := Lib.hid fun u hu => by
        have e0 : ∀ j, wz.cell? ⟨wr.heap.size, j, none⟩ = (#[.string nm, .int .i64 par, .bool ab, .slice A' q c'])[j]? := fun j => by rw [hwz]; exact cell_of_row _ _ _ _ _ _ (heap_alloc_new _ _)
        have ew : ∀ j, u.cell? ⟨wr.heap.size, j, none⟩ = (#[.string nm, .int .i64 par, .bool ab, .slice A' q c'])[j]? := fun j => (hu.cell (p := ⟨wr.heap.size, j, none⟩) (by show wr.heap.size < _; omega)).trans (e0 j)
        exact ⟨box_cell (HBZ.out.trans (hu.mono (by omega))), ⟨ew 0, ew 1, ew 2, ew 3⟩, hu⟩
      have HS0 : Hid (VnS w wz (some ⟨b1, off, none⟩) t.nodes.length cn Ae t.edges.length ce nm par ab A' q c' wr.heap.size wz.drew) := Lib.hid (HZC.out _ (Below.drew (Below.refl _ _)))
      have HCS : Hid (∀ u, VnS w wz (some ⟨b1, off, none⟩) t.nodes.length cn Ae t.edges.length ce nm par ab A' q c' wr.heap.size u → Calls Try.prog 33 #[.slice (some ⟨b1, off, none⟩) i cn, .agg #[.string nm, .int .i64 par, .bool ab, .slice A' q c']] u fun e w' => e = .returned (.int .i64 ee) ∧ VnS w wz (some ⟨b1, off, none⟩) t.nodes.length cn Ae t.edges.length ce nm par ab A' q c' wr.heap.size w') := Lib.hid fun u hu => by
        obtain ⟨_, _, gb⟩ := hu
        have gw : Below wr.heap.size wr u := HBWZ.out.trans (gb.mono (by omega))
        refine (HNI.out u (HTW.out.up gw) (DReads.up HAT.out gw)).mono ?_
        rintro e w' ⟨rfl, hb⟩
        exact ⟨rfl, HZC.out w' (gb.trans (hb.mono gb.size))⟩
      have HWZ := Lib.hid hwz
      clear hwz hzz
      by_cases he : ee = 0
      · have HR2 : Hid (R = nodesR t (i + 1) (t.nodes.length - (i + 1))) := Lib.hid (by rw [HRS.out, if_neg (fun h => h he)])
        have HNO2 : Hid (∀ j, j < i + 1 → nodeE t j = 0) := Lib.hid fun j hj => by
          by_cases e : j = i
          · rw [e, ← HEE.out, he]
          · exact HNO.out j (by omega)
        subst he
        clear HRS HEE
        go_wp2_with fail
        rw [← HWZ.out]
        clear c0 c1 m0 m1 m2 m3
        go_region_held3 (fun u => VnS w wz (some ⟨b1, off, none⟩) t.nodes.length cn Ae t.edges.length ce nm par ab A' q c' wr.heap.size u) (first | assumption | exact HS0.out)
          ((with_reducible refine (HCS.out _ (by assumption)).mono ?_; rintro e w4 ⟨rfl, hs2⟩))
        all_goals
          have HB4 := Lib.hid (HBZ.out.trans (hs2.2.2.mono (by have := HBZ.out.size; simpa using this)))
          clear hs2
          go_wp2_with fail
          go_roundw
          case rel => exact ⟨i + 1, by omega, by go_num, HR2.out, HNO2.out, HB4.out⟩
          case measure => simp [intOf]; omega
      · have HR2 : Hid (R = (ee, nm)) := Lib.hid (by rw [HRS.out, if_pos he])
        have t3 : ((ee : Int) != 0) = true := by simp; omega
        clear HRS HEE he
        go_wp2_with fail
        rw [← HWZ.out]
        clear c0 c1 m0 m1 m2 m3
        go_region_held3 (fun u => VnS w wz (some ⟨b1, off, none⟩) t.nodes.length cn Ae t.edges.length ce nm par ab A' q c' wr.heap.size u) (first | assumption | exact HS0.out)
          ((with_reducible refine (HCS.out _ (by assumption)).mono ?_; rintro e w4 ⟨rfl, hs2⟩))
        all_goals
          have HB4 := Lib.hid (box_below (HBZ.out.trans (hs2.2.2.mono (by have := HBZ.out.size; simpa using this))))
          obtain ⟨_, ⟨g0, _⟩, _⟩ := hs2
          go_wp2_with fail
          go_ret2
          exact ⟨(ret_res HR2.out).symm, HB4.out⟩
    · have t1 : decide ((i : Int) < (t.nodes.length : Int)) = false := decide_eq_false (by omega)
      have HR2 : Hid (R = edgesR t 0 (t.edges.length - 0)) := Lib.hid (by rw [hR]; exact HNZ.out i (by omega))
      have HB := Lib.hid hB
      clear hR hB hno hW
      go_wp2_with fail
      clear c0 c1 t1
      go_loopw [49] (fun vi wr => ∃ i : Nat, i ≤ t.edges.length ∧ vi = .int .i64 i ∧ R = edgesR t i (t.edges.length - i) ∧ Below (w.heap.size + 1) (w.alloc (.cells #[.slice An t.nodes.length cn, .slice Ae t.edges.length ce] 25 (0, 0))) wr) (fun vi _ => t.edges.length - (intOf vi).toNat)
      case atStart => exact ⟨0, Nat.zero_le _, rfl, HR2.out, HB.out⟩
      case round =>
        obtain ⟨i, hi, rfl, hR, hB⟩ := hrel
        obtain ⟨c0, c1⟩ := box_cell hB
        have hW := box_below hB
        clear HR2
        by_cases hlt : i < t.edges.length
        · have t1 : decide ((i : Int) < (t.edges.length : Int)) = true := decide_eq_true (by omega)
          obtain ⟨b1, off, rfl, hbb, m0, m1, m2, m3, m4, m5, m6⟩ := Edgs.cells (HT.out.up hW).2 hlt
          have HNI := Lib.hid (HEA.out i hlt)
          rw [HES.out i hlt, getD_at hlt] at hR
          have HRS := Lib.hid hR
          have HTW := Lib.hid (HT.out.up hW)
          generalize t.edges[i] = x at *
          obtain ⟨nm, fr, to, ol, oh, il, ih⟩ := x
          dsimp only at *
          generalize edgeE t i = ee at *
          have HB := Lib.hid hB
          have i0 : (0 : Int) ≤ (i : Int) := by omega
          have i1 : (i : Int) < (t.edges.length : Int) := by omega
          have i2 : ((i : Int)).toNat = i := by omega
          have i3 : (i : Int) ≤ (ce : Int) := by omega
          have hsz : w.heap.size + 1 ≤ wr.heap.size := by have := hB.size; simpa using this
          have hbz : b1 < wr.heap.size := hbb
          clear hB hR hW
          obtain ⟨wz, hwz⟩ : ∃ wz, wz = wr.alloc (.cells #[.string nm, .int .i64 fr, .int .i64 to, .int .i64 ol, .int .i64 oh, .int .i64 il, .int .i64 ih] 60 (0, 0)) := ⟨_, rfl⟩
          have HBZ : Hid (Below (w.heap.size + 1) (w.alloc (.cells #[.slice An t.nodes.length cn, .slice (some ⟨b1, off, none⟩) t.edges.length ce] 25 (0, 0))) wz) := Lib.hid (by rw [hwz]; exact HB.out.alloc hsz _)
          have HBWZ : Hid (Below wr.heap.size wr wz) := Lib.hid (by rw [hwz]; exact (Below.refl _ _).alloc (Nat.le_refl _) _)
          have hzz : wz.heap.size = wr.heap.size + 1 := by rw [hwz]; simp
          have HZC : Hid (∀ u, Below wz.heap.size wz u → VeS w wz An t.nodes.length cn (some ⟨b1, off, none⟩) t.edges.length ce nm fr to ol oh il ih wr.heap.size u) := Lib.hid fun u hu => by
            have e0 : ∀ j, wz.cell? ⟨wr.heap.size, j, none⟩ = (#[.string nm, .int .i64 fr, .int .i64 to, .int .i64 ol, .int .i64 oh, .int .i64 il, .int .i64 ih])[j]? := fun j => by rw [hwz]; exact cell_of_row _ _ _ _ _ _ (heap_alloc_new _ _)
            have ew : ∀ j, u.cell? ⟨wr.heap.size, j, none⟩ = (#[.string nm, .int .i64 fr, .int .i64 to, .int .i64 ol, .int .i64 oh, .int .i64 il, .int .i64 ih])[j]? := fun j => (hu.cell (p := ⟨wr.heap.size, j, none⟩) (by show wr.heap.size < _; omega)).trans (e0 j)
            exact ⟨box_cell (HBZ.out.trans (hu.mono (by omega))), ⟨ew 0, ew 1, ew 2, ew 3, ew 4, ew 5, ew 6⟩, hu⟩
          have HS0 : Hid (VeS w wz An t.nodes.length cn (some ⟨b1, off, none⟩) t.edges.length ce nm fr to ol oh il ih wr.heap.size wz.drew) := Lib.hid (HZC.out _ (Below.drew (Below.refl _ _)))
          have HCS : Hid (∀ u, VeS w wz An t.nodes.length cn (some ⟨b1, off, none⟩) t.edges.length ce nm fr to ol oh il ih wr.heap.size u → Calls Try.prog 34 #[.int .i64 t.nodes.length, .slice (some ⟨b1, off, none⟩) i ce, .agg #[.string nm, .int .i64 fr, .int .i64 to, .int .i64 ol, .int .i64 oh, .int .i64 il, .int .i64 ih]] u fun e w' => e = .returned (.int .i64 ee) ∧ VeS w wz An t.nodes.length cn (some ⟨b1, off, none⟩) t.edges.length ce nm fr to ol oh il ih wr.heap.size w') := Lib.hid fun u hu => by
            obtain ⟨_, _, gb⟩ := hu
            have gw : Below wr.heap.size wr u := HBWZ.out.trans (gb.mono (by omega))
            refine (HNI.out u (HTW.out.up gw)).mono ?_
            rintro e w' ⟨rfl, hb⟩
            exact ⟨rfl, HZC.out w' (gb.trans (hb.mono gb.size))⟩
          have HWZ := Lib.hid hwz
          clear hwz hzz
          by_cases he : ee = 0
          · have HR2 : Hid (R = edgesR t (i + 1) (t.edges.length - (i + 1))) := Lib.hid (by rw [HRS.out, if_neg (fun h => h he)])
            subst he
            clear HRS
            go_wp2_with fail
            rw [← HWZ.out]
            clear c0 c1 m0 m1 m2 m3 m4 m5 m6
            go_region_held3 (fun u => VeS w wz An t.nodes.length cn (some ⟨b1, off, none⟩) t.edges.length ce nm fr to ol oh il ih wr.heap.size u) (first | assumption | exact HS0.out)
              ((with_reducible refine (HCS.out _ (by assumption)).mono ?_; rintro e w4 ⟨rfl, hs2⟩))
            all_goals
              have HB4 := Lib.hid (HBZ.out.trans (hs2.2.2.mono (by have := HBZ.out.size; simpa using this)))
              clear hs2
              go_wp2_with fail
              go_roundw
              case rel => exact ⟨i + 1, by omega, by go_num, HR2.out, HB4.out⟩
              case measure => simp [intOf]; omega
          · have HR2 : Hid (R = (ee, nm)) := Lib.hid (by rw [HRS.out, if_pos he])
            have t3 : ((ee : Int) != 0) = true := by simp; omega
            clear HRS he
            go_wp2_with fail
            rw [← HWZ.out]
            clear c0 c1 m0 m1 m2 m3 m4 m5 m6
            go_region_held3 (fun u => VeS w wz An t.nodes.length cn (some ⟨b1, off, none⟩) t.edges.length ce nm fr to ol oh il ih wr.heap.size u) (first | assumption | exact HS0.out)
              ((with_reducible refine (HCS.out _ (by assumption)).mono ?_; rintro e w4 ⟨rfl, hs2⟩))
            all_goals
              have HB4 := Lib.hid (box_below (HBZ.out.trans (hs2.2.2.mono (by have := HBZ.out.size; simpa using this))))
              obtain ⟨_, ⟨g0, _⟩, _⟩ := hs2
              go_wp2_with fail
              go_ret2
              exact ⟨(ret_res HR2.out).symm, HB4.out⟩
        · have t1 : decide ((i : Int) < (t.edges.length : Int)) = false := decide_eq_false (by omega)
          have HR2 : Hid (R = (0, ⟨#[]⟩)) := Lib.hid (by rw [hR]; exact HEZ.out i (by omega))
          have HB := Lib.hid (box_below hB)
          clear hR hB hW
          go_wp2_with fail
          go_ret2
          exact ⟨(ret_res HR2.out).symm, HB.out⟩

end Go.Proofs.Ytgpcaofikmdpjaa
