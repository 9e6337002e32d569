/-
  Types: node of the reference.
-/
import Derived.Test.YtgpcaofikmdpjaaTNodeP
namespace Go.Proofs.Ytgpcaofikmdpjaa
open Go.RowKit

theorem below_two {w w1 : World} {o o2 : Obj} (h : Below ((w.alloc o).alloc o2).heap.size ((w.alloc o).alloc o2) w1) : Below (w.heap.size + 1 + 1) ((w.alloc o).alloc o2) w1 := by simpa using h
/-- the boxes of a type graph and of one of its node types -/
def NodeC (w : World) (b1 off N cn : Nat) (Ae : Option Addr) (M ce : Nat) (nm : ByteArray) (par : Int) (A' : Option Addr) (q c' : Nat) (u : World) : Prop :=
  u.cell? ⟨w.heap.size, 0, none⟩ = some (.slice (some ⟨b1, off, none⟩) N cn) ∧ u.cell? ⟨w.heap.size, 1, none⟩ = some (.slice Ae M ce) ∧ u.cell? ⟨w.heap.size + 1, 0, none⟩ = some (.string nm) ∧ u.cell? ⟨w.heap.size + 1, 1, none⟩ = some (.int .i64 par) ∧ u.cell? ⟨w.heap.size + 1, 3, none⟩ = some (.slice A' q c')
theorem nodeC_of {w u : World} {b1 off N cn : Nat} {Ae : Option Addr} {M ce : Nat} {nm : ByteArray} {par : Int} {ab : Bool} {A' : Option Addr} {q c' : Nat}
    (h : Below (w.heap.size + 1 + 1) ((w.alloc (.cells #[.slice (some ⟨b1, off, none⟩) N cn, .slice Ae M ce] 25 (0, 0))).alloc (.cells #[.string nm, .int .i64 par, .bool ab, .slice A' q c'] 55 (0, 0))) u) : NodeC w b1 off N cn Ae M ce nm par A' q c' u := by
  have e1 : ∀ j, j < 2 → ((w.alloc (.cells #[.slice (some ⟨b1, off, none⟩) N cn, .slice Ae M ce] 25 (0, 0))).alloc (.cells #[.string nm, .int .i64 par, .bool ab, .slice A' q c'] 55 (0, 0))).cell? ⟨w.heap.size, j, none⟩ = (#[Value.slice (some ⟨b1, off, none⟩) N cn, .slice Ae M ce])[j]? := fun j _ => cell_of_row _ _ _ _ _ _ (heap_two _ _ _)
  have e2 : ∀ j, j < 4 → ((w.alloc (.cells #[.slice (some ⟨b1, off, none⟩) N cn, .slice Ae M ce] 25 (0, 0))).alloc (.cells #[.string nm, .int .i64 par, .bool ab, .slice A' q c'] 55 (0, 0))).cell? ⟨w.heap.size + 1, j, none⟩ = (#[Value.string nm, .int .i64 par, .bool ab, .slice A' q c'])[j]? := fun j _ => cell_of_row _ _ _ _ _ _ (heap_two' _ _ _)
  exact ⟨(h.cell (p := ⟨w.heap.size, 0, none⟩) (by show w.heap.size < _; omega)).trans (e1 0 (by omega)), (h.cell (p := ⟨w.heap.size, 1, none⟩) (by show w.heap.size < _; omega)).trans (e1 1 (by omega)),
    (h.cell (p := ⟨w.heap.size + 1, 0, none⟩) (by show w.heap.size + 1 < _; omega)).trans (e2 0 (by omega)), (h.cell (p := ⟨w.heap.size + 1, 1, none⟩) (by show w.heap.size + 1 < _; omega)).trans (e2 1 (by omega)), (h.cell (p := ⟨w.heap.size + 1, 3, none⟩) (by show w.heap.size + 1 < _; omega)).trans (e2 3 (by omega))⟩

set_option maxRecDepth 100000 in
set_option maxHeartbeats 4000000 in
theorem node_any (hn : NameC 55) (t : Typ) (An : Option Addr) (cn : Nat) (Ae : Option Addr) (ce k : Nat) (hk : k < t.nodes.length) (hg : GoodU t k) (hf : FewT t) (w : World) (hT : Nods w w.heap.size An t.nodes) :
    Calls Try.prog 35 #[tyval An t.nodes.length cn Ae t.edges.length ce, .int .i64 k] w fun e w' => e = .returned (.int .i64 (nodeE t k)) ∧ Below w.heap.size w w' := by
  have hsm := hf.node _ (List.getElem_mem hk)
  have HX : Hid (nodeE t k = nodeR t.nodes[k] (attL t k) (t.nodes.take k) k) := Lib.hid (by unfold nodeE; rw [getD_at hk])
  have HAT := Lib.hid (fun (h : inB t.nodes[k].par (-1) ((k : Int) - 1) = true) (u : World) hu => attrs_call t An cn Ae ce (k + 1) (fun i hi => by
    by_cases e : i < k
    · exact hg i e
    · obtain rfl : i = k := by omega
      unfold inB at h
      simp only [Bool.and_eq_true, decide_eq_true_eq] at h
      unfold parT
      rw [getD_at hk]
      omega) (by omega) hf k u (by omega) (by omega) hu)
  have HLS := Lib.hid (attL_small hf k)
  have HLL := Lib.hid (attL_len (fun x hx => (hf.node x hx).2.1) (show (k : Int) ≤ 20 by have := hf.nodes; omega))
  have HAL : Hid (inB t.nodes[k].par (-1) ((k : Int) - 1) = true → t.nodes[k].att.length ≤ (attL t k).length) := Lib.hid fun h => by
    have hgk : GoodU t (k + 1) := fun i hi => by
      by_cases e : i < k
      · exact hg i e
      · obtain rfl : i = k := by omega
        unfold inB at h
        simp only [Bool.and_eq_true, decide_eq_true_eq] at h
        unfold parT
        rw [getD_at hk]
        omega
    rw [attL_step hgk (Nat.lt_succ_self k), getD_at hk, List.length_append]
    omega
  obtain ⟨b1, off, A', c', rfl, hbb, k0, k1, k2, k3, _⟩ := Nods.cells hT hk
  have HT := Lib.hid hT
  have HNOD : Hid (∀ (u : World), Below w.heap.size w u → ∀ (j : Nat) (hj : j < t.nodes.length), u.cell? ⟨b1, off + j * 4, none⟩ = some (.string t.nodes[j].nm)) := Lib.hid fun u hu j hj => by
    obtain ⟨b', off', _, _, hE, _, j0, _⟩ := Nods.cells (DReads.below HT.out hu) hj
    simp only [Option.some.injEq, Addr.mk.injEq, and_true] at hE
    obtain ⟨rfl, rfl⟩ := hE
    exact j0
  have HEQ : Hid (∀ (j : Nat) (hj : j < t.nodes.length), j < k → t.nodes[j].nm = t.nodes[k].nm → (t.nodes.take k).any (fun y => decide (y.nm = t.nodes[k].nm)) = true) := Lib.hid fun j hj hjk h => any_take hjk hj (decide_eq_true h)
  have HNE : Hid (∀ (j : Nat) (hj : j < t.nodes.length), (∀ y ∈ t.nodes.take j, decide (y.nm = t.nodes[k].nm) = false) → ¬ t.nodes[j].nm = t.nodes[k].nm → ∀ y ∈ t.nodes.take (j + 1), decide (y.nm = t.nodes[k].nm) = false) := Lib.hid fun j hj h h2 => none_take hj h (decide_eq_false h2)
  have HNM := Lib.hid (fun u => hn t.nodes[k].nm u hsm.1)
  have HNM2 := Lib.hid (fun (s : ByteArray) u hs => hn s u hs)
  have HATT := Lib.hid (fun (a : Att) (A : Option Addr) (c : Nat) (u : World) hl hs hT => attribute_any hn a A c u hl hs hT)
  have hn20 := hf.nodes
  clear hT hn hg hf
  generalize nodeE t k = R at HX ⊢
  generalize attL t k = L at HX HAT HLS HLL HAL
  generalize t.nodes[k] = x at *
  obtain ⟨nm, par, ab, att⟩ := x
  unfold nodeR at HX
  dsimp only at *
  obtain ⟨N, hN⟩ : ∃ N, N = t.nodes.length := ⟨_, rfl⟩
  obtain ⟨M, hM⟩ : ∃ M, M = t.edges.length := ⟨_, rfl⟩
  obtain ⟨q, hq⟩ : ∃ q, q = att.length := ⟨_, rfl⟩
  have hq30 : q ≤ 30 := by rw [hq]; exact hsm.2.1
  have HN := Lib.hid hN
  have hN20 : N ≤ 20 := by rw [hN]; exact hn20
  rw [← hN] at HAT hk ⊢
  rw [← hM] at HAT ⊢
  rw [← hq] at HX HAL k3
  clear hM hN hq hsm
  have i0 : (0 : Int) ≤ (k : Int) := by omega
  have i1 : (k : Int) < (N : Int) := by omega
  have i2 : ((k : Int)).toNat = k := by omega
  have HBW : Hid (∀ (o1 o2 : Obj) (u : World), Below (w.heap.size + 1 + 1) ((w.alloc o1).alloc o2) u → Below w.heap.size w u) := Lib.hid fun o1 o2 u h => (((Below.refl w.heap.size w).alloc (Nat.le_refl _) o1).alloc (by simp) o2).trans (h.mono (by omega))
  obtain ⟨bp, hbp⟩ : ∃ bp, inB par (-1) ((k : Int) - 1) = bp := ⟨_, rfl⟩
  have HBP := Lib.hid hbp
  rw [hbp] at HX HAT HAL
  clear hbp
  cases hnm : isNm nm with
  | false =>
    have HR : Hid (R = 2) := Lib.hid (by rw [HX.out, if_pos hnm])
    rw [hnm] at HNM
    clear hnm HX HAT HNOD HEQ HNE HNM2 HATT HAL HLL HLS HN
    go_enter Try.func35, Try.ntmps35
    go_wp2_with fail
    refine (HNM.out _).mono ?_
    rintro e w1 ⟨rfl, hb1⟩
    have HB1 := Lib.hid (HBW.out _ _ _ (below_two hb1))
    clear hb1
    go_wp2_with fail
    go_ret
    exact ⟨ret_int (by rw [HR.out]; rfl), HB1.out⟩
  | true =>
    have HR : Hid (R = if (t.nodes.take k).any (fun y => decide (y.nm = nm)) then 5 else if bp = false then 6 else if 4 < q ∨ 8 < L.length then 3 else nzD (ownAt L) (L.length - q) q) := Lib.hid (by rw [HX.out, if_neg (by rw [hnm]; simp)])
    rw [hnm] at HNM
    clear hnm HX
    go_enter Try.func35, Try.ntmps35
    go_wp2_with fail
    refine (HNM.out _).mono ?_
    rintro e w1 ⟨rfl, hb1⟩
    have HC1 : Hid (∀ u, Below (w.heap.size + 1 + 1) w1 u → NodeC w b1 off N cn Ae M ce nm par A' q c' u) := Lib.hid fun u hu => nodeC_of ((below_two hb1).trans hu)
    have HBU : Hid (∀ u, Below (w.heap.size + 1 + 1) w1 u → Below w.heap.size w u) := Lib.hid fun u hu => HBW.out _ _ _ ((below_two hb1).trans hu)
    have hz1 : w.heap.size + 1 + 1 ≤ w1.heap.size := by have := hb1.size; simpa using this
    clear hb1 HNM HBW k0 k1 k2 k3
    obtain ⟨c0, c1, c2, c3, c4⟩ := HC1.out w1 (Below.refl _ _)
    go_wp2_with fail
    go_loopw [6] (fun jj ws => ∃ j : Nat, j ≤ k ∧ jj = .int .i64 j ∧ (∀ y ∈ t.nodes.take j, decide (y.nm = nm) = false) ∧ Below (w.heap.size + 1 + 1) w1 ws) (fun jj _ => k - (intOf jj).toNat)
    case atStart => exact ⟨0, Nat.zero_le _, rfl, (fun y hy => by simp at hy), Below.refl _ _⟩
    case round =>
      obtain ⟨j, hj, rfl, hno, hB⟩ := hrel
      obtain ⟨d0, d1, d2, d3, d4⟩ := HC1.out wr hB
      clear c0 c1 c2 c3 c4
      by_cases hjk : j < k
      · have hjl : j < t.nodes.length := by have := HN.out; omega
        have j0 := HNOD.out wr (HBU.out wr hB) j hjl
        have n0 : (0 : Int) ≤ (j : Int) := by omega
        have n1 : (j : Int) < (N : Int) := by omega
        have n2 : ((j : Int)).toNat = j := by omega
        have t1 : decide ((j : Int) < (k : Int)) = true := decide_eq_true (by omega)
        have HB := Lib.hid hB
        have HYES : Hid (t.nodes[j].nm = nm → R = 5) := Lib.hid fun h => by rw [HR.out, if_pos (HEQ.out j hjl hjk h)]
        have HNO := Lib.hid (HNE.out j hjl hno)
        generalize t.nodes[j].nm = y at j0 HYES HNO
        clear hno hB
        by_cases hys : y = nm
        · subst hys
          have HR5 := Lib.hid (HYES.out rfl)
          clear HYES HNO
          go_wp2_with fail
          go_quiet (fail)
          go_wp2_with fail
          go_ret
          exact ⟨ret_int (by rw [HR5.out]; rfl), HBU.out _ (below_draws HB.out _)⟩
        · have HX := Lib.hid (HNO.out hys)
          have t2 := str_ne hys
          clear HYES HNO
          go_wp2_with fail
          go_quiet (fail)
          go_wp2_with fail
          go_roundw
          case rel => exact ⟨j + 1, by omega, by go_num, HX.out, below_draws HB.out _⟩
          case measure => simp [intOf]; omega
      · have t1 : decide ((j : Int) < (k : Int)) = false := decide_eq_false (by omega)
        have e : j = k := by omega
        subst e
        have HR2 : Hid (R = if bp = false then 6 else if 4 < q ∨ 8 < L.length then 3 else nzD (ownAt L) (L.length - q) q) := Lib.hid (by rw [HR.out, any_none hno]; rfl)
        have HB := Lib.hid hB
        clear hno hB HR HEQ HNE HNOD
        have HI := Lib.hid (fun u => in_any par (-1) ((j : Int) - 1) u)
        cases bp with
        | false =>
          have HR3 : Hid (R = 6) := Lib.hid (by rw [HR2.out, if_pos rfl])
          rw [HBP.out] at HI
          clear HR2 HAT HAL HBP
          go_wp2_with fail
          refine (HI.out _).mono ?_
          rintro e w2 ⟨rfl, rfl⟩
          go_wp2_with fail
          go_ret
          exact ⟨ret_int (by rw [HR3.out]; rfl), HBU.out _ HB.out⟩
        | true =>
          have HR3 : Hid (R = if 4 < q ∨ 8 < L.length then 3 else nzD (ownAt L) (L.length - q) q) := Lib.hid (by rw [HR2.out, if_neg (by simp)])
          have hqL := HAL.out rfl
          have HA := Lib.hid (fun u hu => HAT.out rfl u hu)
          rw [HBP.out] at HI
          clear HR2 HAT HAL HBP
          go_wp2_with fail
          refine (HI.out _).mono ?_
          rintro e w2 ⟨rfl, rfl⟩
          go_wp2_with fail
          refine (HA.out _ (DReads.up HT.out (HBU.out _ HB.out))).mono ?_
          rintro e w3 ⟨⟨A1, c1, rfl, hat3⟩, hb3⟩
          have HB3 := Lib.hid (HB.out.trans (hb3.mono (by have := HB.out.size; omega)))
          have HAT3 := Lib.hid hat3
          obtain ⟨d0, d1, d2, d3, d4⟩ := HC1.out _ HB3.out
          clear hat3 hb3 HA HI
          have HLB := Lib.hid HLL.out
          by_cases h4 : 4 < q
          · have HR4 : Hid (R = 3) := Lib.hid (by rw [HR3.out, if_pos (.inl h4)])
            have t1 : decide (4 < (q : Int)) = true := decide_eq_true (by omega)
            clear HR3
            go_wp2_with fail
            go_ret
            exact ⟨ret_int (by rw [HR4.out]; rfl), HBU.out _ HB3.out⟩
          · have t1 : decide (4 < (q : Int)) = false := decide_eq_false (by omega)
            by_cases h8 : 8 < L.length
            · have HR4 : Hid (R = 3) := Lib.hid (by rw [HR3.out, if_pos (.inr h8)])
              have t2 : decide (8 < (L.length : Int)) = true := decide_eq_true (by omega)
              clear HR3
              go_wp2_with fail
              go_ret
              exact ⟨ret_int (by rw [HR4.out]; rfl), HBU.out _ HB3.out⟩
            · have HR4 : Hid (R = nzD (ownAt L) (L.length - q) (L.length - (L.length - q))) := Lib.hid (by rw [HR3.out, if_neg (by omega), show L.length - (L.length - q) = q by omega])
              have t2 : decide (8 < (L.length : Int)) = false := decide_eq_false (by omega)
              clear HR3
              have HLQ : Hid (q ≤ L.length) := Lib.hid hqL
              have hL8 : L.length ≤ 8 := by omega
              have HEQ2 : Hid (∀ (i j : Nat) (hi : i < L.length) (hj : j < L.length), i < j → L[i].nm = L[j].nm → (L.take j).any (fun y => decide (y.nm = L[j].nm)) = true) := Lib.hid fun i j hi hj hij h => any_take hij hi (decide_eq_true h)
              have HBW3 : Hid (∀ u, Below w3.heap.size w3 u → Below (w.heap.size + 1 + 1) w1 u) := Lib.hid fun u hu => HB3.out.trans (hu.mono (by have := HB3.out.size; omega))
              go_wp2_with fail
              clear d0 d1 d2 d3 d4 t1 t2 h4 h8 hq30
              go_loopw [8] (fun vi wr => ∃ z : Nat, z ≤ L.length ∧ vi = .int .i64 z ∧ R = nzD (ownAt L) z (L.length - z) ∧ Below w3.heap.size w3 wr) (fun vi _ => L.length - (intOf vi).toNat)
              case atStart => exact ⟨L.length - q, by omega, by have := HLQ.out; congr 1; omega, HR4.out, Below.refl _ _⟩
              case round =>
                obtain ⟨z, hz, rfl, hR, hB⟩ := hrel
                clear HR4
                by_cases hlt : z < L.length
                · obtain ⟨wo, hwo⟩ : ∃ wo, wo = wr := ⟨_, rfl⟩
                  subst hwo
                  obtain ⟨b2, off2, A2, c2, rfl, hbb2, m0, m1, m2, m3, hst⟩ := Atts.cells (HAT3.out.below hB) hlt
                  obtain ⟨s1, s2, s3⟩ := HLS.out _ (List.getElem_mem hlt)
                  rw [own_step hlt] at hR
                  have HRS := Lib.hid hR
                  have HEQ3 : Hid (∀ (j : Nat) (hj : j < L.length), j < z → L[j].nm = L[z].nm → (L.take z).any (fun y => decide (y.nm = L[z].nm)) = true) := Lib.hid fun j hj hjz h => HEQ2.out j z hj hlt hjz h
                  have HNE3 : Hid (∀ (j : Nat) (hj : j < L.length), (∀ y ∈ L.take j, decide (y.nm = L[z].nm) = false) → ¬ L[j].nm = L[z].nm → ∀ y ∈ L.take (j + 1), decide (y.nm = L[z].nm) = false) := Lib.hid fun j hj h h2 => none_take hj h (decide_eq_false h2)
                  have HI := Lib.hid (fun u => HNM2.out L[z].nm u s1)
                  have HST := Lib.hid hst
                  have HSS := Lib.hid s3
                  generalize L[z] = a at m0 m1 m2 m3 HRS HEQ3 HNE3 HI HST HSS s2
                  have HAE := Lib.hid (fun u hu => HATT.out a A2 c2 u (by omega) HSS.out hu)
                  obtain ⟨an, alo, ahi, ans⟩ := a
                  dsimp only at m0 m1 m2 m3 HRS HEQ3 HNE3 HI HST s2 HAE
                  have z0 : (0 : Int) ≤ (z : Int) := by omega
                  have z1 : (z : Int) < (L.length : Int) := by omega
                  have z2 : ((z : Int)).toNat = z := by omega
                  have hsz := hB.size
                  have HB := Lib.hid hB
                  clear hB hR hst s1 s3
                  cases hnm2 : isNm an with
                  | false =>
                    have HR5 : Hid (R = 2) := Lib.hid (by rw [HRS.out, if_pos hnm2])
                    rw [hnm2] at HI
                    clear hnm2 HRS HEQ3 HNE3 HAE
                    go_wp2_with fail
                    refine (HI.out _).mono ?_
                    rintro e w4 ⟨rfl, hb4⟩
                    have HB4 := Lib.hid (HB.out.trans (hb4.mono hsz))
                    clear hb4
                    go_wp2_with fail
                    go_ret
                    exact ⟨ret_int (by rw [HR5.out]; rfl), HBU.out _ (HBW3.out _ HB4.out)⟩
                  | true =>
                    have HR5 : Hid (R = if (L.take z).any (fun y => decide (y.nm = an)) then 5 else if attE ⟨an, alo, ahi, ans⟩ ≠ 0 then attE ⟨an, alo, ahi, ans⟩ else nzD (ownAt L) (z + 1) (L.length - (z + 1))) := Lib.hid (by rw [HRS.out, if_neg (by rw [hnm2]; simp)])
                    rw [hnm2] at HI
                    clear hnm2 HRS
                    go_wp2_with fail
                    refine (HI.out _).mono ?_
                    rintro e w4 ⟨rfl, hb4⟩
                    have hb4w := hb4.mono hsz
                    have HB4 := Lib.hid (HB.out.trans hb4w)
                    have n0' := (hb4w.cell (p := ⟨b2, off2 + z * 4, none⟩) hbb2).trans m0
                    have HST4 := Lib.hid (HST.out.below hb4w)
                    have HM : Hid (∀ u, Below w3.heap.size w4 u → u.cell? ⟨b2, off2 + z * 4, none⟩ = some (.string an) ∧ u.cell? ⟨b2, off2 + z * 4 + 1, none⟩ = some (.int .i64 alo) ∧ u.cell? ⟨b2, off2 + z * 4 + 2, none⟩ = some (.int .i64 ahi) ∧ u.cell? ⟨b2, off2 + z * 4 + 3, none⟩ = some (.slice A2 ans.length c2)) := Lib.hid fun u hu => by
                      have hu := hb4w.trans hu
                      exact ⟨(hu.cell (p := ⟨b2, off2 + z * 4, none⟩) hbb2).trans m0, (hu.cell (p := ⟨b2, off2 + z * 4 + 1, none⟩) hbb2).trans m1, (hu.cell (p := ⟨b2, off2 + z * 4 + 2, none⟩) hbb2).trans m2, (hu.cell (p := ⟨b2, off2 + z * 4 + 3, none⟩) hbb2).trans m3⟩
                    clear hb4 hb4w HI m0 m1 m2 m3 HB HST
                    go_wp2_with fail
                    go_loopw [9] (fun jj ws => ∃ i : Nat, i ≤ z ∧ jj = .int .i64 i ∧ (∀ y ∈ L.take i, decide (y.nm = an) = false) ∧ Below w3.heap.size w4 ws) (fun jj _ => z - (intOf jj).toNat)
                    case atStart => exact ⟨0, Nat.zero_le _, rfl, (fun y hy => by simp at hy), Below.refl _ _⟩
                    case round =>
                      obtain ⟨i, hi, rfl, hno, hB⟩ := hrel
                      obtain ⟨e0, e1, e2, e3⟩ := HM.out wr hB
                      clear n0'
                      by_cases hiz : i < z
                      · have hil : i < L.length := by omega
                        obtain ⟨b', off', _, _, hE, _, j0, _⟩ := Atts.cells (HAT3.out.below (HB4.out.trans hB)) hil
                        simp only [Option.some.injEq, Addr.mk.injEq, and_true] at hE
                        obtain ⟨rfl, rfl⟩ := hE
                        have n0 : (0 : Int) ≤ (i : Int) := by omega
                        have n1 : (i : Int) < (L.length : Int) := by omega
                        have n2 : ((i : Int)).toNat = i := by omega
                        have t1 : decide ((i : Int) < (z : Int)) = true := decide_eq_true (by omega)
                        have HB5 := Lib.hid hB
                        have HYES : Hid (L[i].nm = an → R = 5) := Lib.hid fun h => by rw [HR5.out, if_pos (HEQ3.out i hil hiz h)]
                        have HNO := Lib.hid (HNE3.out i hil hno)
                        generalize L[i].nm = y at j0 HYES HNO
                        clear hno hB
                        by_cases hys : y = an
                        · subst hys
                          have HR6 := Lib.hid (HYES.out rfl)
                          clear HYES HNO
                          go_wp2_with fail
                          go_quiet (fail)
                          go_wp2_with fail
                          go_ret
                          exact ⟨ret_int (by rw [HR6.out]; rfl), HBU.out _ (HBW3.out _ (HB4.out.trans (below_draws HB5.out _)))⟩
                        · have HX := Lib.hid (HNO.out hys)
                          have t2 := str_ne hys
                          clear HYES HNO
                          go_wp2_with fail
                          go_quiet (fail)
                          go_wp2_with fail
                          go_roundw
                          case rel => exact ⟨i + 1, by omega, by go_num, HX.out, below_draws HB5.out _⟩
                          case measure => simp [intOf]; omega
                      · have t1 : decide ((i : Int) < (z : Int)) = false := decide_eq_false (by omega)
                        have e : i = z := by omega
                        subst e
                        have HR6 : Hid (R = if attE ⟨an, alo, ahi, ans⟩ ≠ 0 then attE ⟨an, alo, ahi, ans⟩ else nzD (ownAt L) (i + 1) (L.length - (i + 1))) := Lib.hid (by rw [HR5.out, any_none hno]; rfl)
                        have HB5 := Lib.hid (HB4.out.trans hB)
                        have HST5 := Lib.hid ((HST4.out.below hB).mono HB5.out.size)
                        clear hno hB HR5 HEQ3 HNE3
                        generalize attE ⟨an, alo, ahi, ans⟩ = ee at HR6 HAE
                        by_cases he : ee = 0
                        · have HR7 : Hid (R = nzD (ownAt L) (i + 1) (L.length - (i + 1))) := Lib.hid (by rw [HR6.out, if_neg (fun h => h he)])
                          subst he
                          clear HR6
                          go_wp2_with fail
                          refine (HAE.out _ HST5.out).mono ?_
                          rintro e w6 ⟨rfl, hb6⟩
                          have HB6 := Lib.hid (HB5.out.trans (hb6.mono HB5.out.size))
                          clear hb6
                          go_wp2_with fail
                          go_roundw
                          case rel => exact ⟨i + 1, by omega, by go_num, HR7.out, HB6.out⟩
                          case measure => simp [intOf]; omega
                        · have HR7 : Hid (R = ee) := Lib.hid (by rw [HR6.out, if_pos he])
                          have t3 : ((ee : Int) != 0) = true := by simp; omega
                          clear HR6 he
                          go_wp2_with fail
                          refine (HAE.out _ HST5.out).mono ?_
                          rintro e w6 ⟨rfl, hb6⟩
                          have HB6 := Lib.hid (HB5.out.trans (hb6.mono HB5.out.size))
                          clear hb6
                          go_wp2_with fail
                          go_ret
                          exact ⟨ret_int (by rw [HR7.out]), HBU.out _ (HBW3.out _ HB6.out)⟩
                · have HR5 : Hid (R = 0) := Lib.hid (by rw [hR]; exact nzD_end (by omega))
                  have HB := Lib.hid hB
                  clear hR hB
                  go_wp2_with fail
                  go_ret
                  exact ⟨ret_int (by rw [HR5.out]; rfl), HBU.out _ (HBW3.out _ HB.out)⟩

end Go.Proofs.Ytgpcaofikmdpjaa
