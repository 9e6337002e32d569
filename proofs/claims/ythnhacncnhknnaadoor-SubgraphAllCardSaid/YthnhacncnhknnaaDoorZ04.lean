import Derived.Test.YthnhacncnhknnaaDoorZ03
import Derived.Test.YthnhacncnhknnaaDoorZ01
/-
  The reference's small functions: SameInts, Finest, Through, Distinct, Covers, Back.
-/
namespace Go.Proofs.YthnhacncnhknnaaDoor
open Go.RowKit

theorem thr_take (l k : List Int) {j : Nat} (h : j < l.length) : thr (l.take (j + 1)) k = thr (l.take j) k ++ [k.getD (l.getD j 0).toNat 0] := by
  unfold thr
  rw [← take_next h, List.map_append]; rfl

set_option maxHeartbeats 1000000 in
theorem through_any (l k : List Int) (A B : Option Addr) (c d : Nat) (w : World) (hl : l.length ≤ 1000) (hr : ∀ x ∈ l, 0 ≤ x ∧ x < k.length) (hA : Ints w w.heap.size A l) (hB : Ints w w.heap.size B k) :
    Calls Tryd.prog 91 #[.slice A l.length c, .slice B k.length d] w fun e w' => ∃ v, e = .returned v ∧ OwnI w' w.heap.size v (thr l k) ∧ Below w.heap.size w w' := by
  have HN := Lib.hid (fun j (h : j < l.length) => thr_take l k h)
  have HNL : Hid (∀ j, j ≤ l.length → (thr (l.take j) k).length = j) := Lib.hid fun j h => by rw [thr_len, List.length_take]; omega
  have H0 : Hid (thr (l.take 0) k = []) := Lib.hid rfl
  have HE : Hid (thr (l.take l.length) k = thr l k) := Lib.hid (by rw [List.take_length])
  have HA := Lib.hid hA
  have HK := Lib.hid hB
  have HR := Lib.hid hr
  clear hA hB hr
  generalize thr l k = R at HE ⊢
  generalize hP : (fun j => thr (l.take j) k) = P
  have eP : ∀ j, thr (l.take j) k = P j := fun j => by rw [← hP]
  simp only [eP] at HN HNL H0 HE
  clear hP eP
  go_enter Tryd.func91, Tryd.ntmps91
  go_wp2_with fail
  go_loopw [5, 6] (fun v x wr => ∃ j : Nat, j ≤ l.length ∧ x = .int .i64 j ∧ OwnI wr w.heap.size v (P j) ∧ Below w.heap.size w wr) (fun _ x _ => l.length - (intOf x).toNat)
  case atStart => exact ⟨0, Nat.zero_le _, rfl, by rw [H0.out]; exact OwnE.nil _ _ _, Below.refl _ _⟩
  case round =>
    obtain ⟨j, hj, rfl, hown, hbel⟩ := hrel
    have HG := Lib.hid hbel
    have hsz := hbel.size
    have HLN := Lib.hid (HNL.out j hj)
    obtain ⟨ao, cap, rfl⟩ := OwnE.slice hown
    have HW := Lib.hid hown
    by_cases hlt : j < l.length
    · obtain ⟨b, off, rfl, hb, hc⟩ := Ints.cells (HA.out.below hbel) hlt
      have cj := hc j hlt
      have hx := HR.out _ (getD_mem (d := (0 : Int)) hlt)
      obtain ⟨q, hq⟩ : ∃ q : Nat, l.getD j 0 = (q : Int) := ⟨(l.getD j 0).toNat, by omega⟩
      have HNJ := Lib.hid (HN.out j hlt)
      rw [hq] at cj hx HNJ
      rw [Int.toNat_natCast] at HNJ
      have hqk : q < k.length := by omega
      obtain ⟨b2, off2, rfl, hb2, hd⟩ := Ints.cells (HK.out.below hbel) hqk
      have dq := hd q hqk
      have e9 : (P j).length ≤ 1000 := by rw [HLN.out]; omega
      generalize k.getD q 0 = y at dq HNJ
      have q0 : (0 : Int) ≤ (q : Int) := by omega
      have q1 : (q : Int) < (k.length : Int) := by omega
      have q2 : ((q : Int)).toNat = q := by omega
      clear hown hbel hc hd hx hq
      go_wp2_with (at_builtin; refine wpList_append_int (w := wr.alloc _) rfl _ _ rfl w.heap.size _ (P j) rfl ?y1 wr.heap.size 1 y rfl ?y2 ?y3 ?y4 ?_)
      case y1 => exact HW.out.alloc _
      case y2 => exact cell_new _ _ _
      case y3 => omega
      case y4 => simp; omega
      intro v2 w2 hown2 _ hb2
      have HW2 := Lib.hid (OwnE.cast HNJ.out.symm hown2)
      have HB2 := Lib.hid ((HG.out.alloc hsz _).trans hb2)
      clear hown2 hb2
      go_wp2_with fail
      go_roundw
      case rel => exact ⟨j + 1, by omega, by go_num, HW2.out, HB2.out⟩
      case measure => simp [intOf]; omega
    · have e : j = l.length := by omega
      subst e
      have HW2 := Lib.hid (OwnE.cast HE.out HW.out)
      clear hown hbel
      go_wp2_with fail
      go_ret
      exact ⟨_, rfl, HW2.out, HG.out⟩

noncomputable def nodB (l : List Int) : Bool := @decide l.Nodup (Classical.propDecidable _)
theorem nodB_true {l : List Int} (h : l.Nodup) : nodB l = true := @decide_eq_true _ (Classical.propDecidable _) h
theorem nodB_false {l : List Int} (h : ¬ l.Nodup) : nodB l = false := @decide_eq_false _ (Classical.propDecidable _) h
set_option maxHeartbeats 1000000 in
theorem distinct_any (l : List Int) (A : Option Addr) (c : Nat) (w : World) (hl : l.length ≤ 1000) (hA : Ints w w.heap.size A l) :
    Calls Tryd.prog 66 #[.slice A l.length c] w fun e w' => e = .returned (.bool (nodB l)) ∧ Below w.heap.size w w' := by
  have HA := Lib.hid hA
  have HT : Hid ((∀ i k, i < l.length → k < i → l.getD i 0 ≠ l.getD k 0) → nodB l = true) := Lib.hid fun h => nodB_true (nodup_iff.2 h)
  have HF : Hid (∀ i k, i < l.length → k < i → l.getD i 0 = l.getD k 0 → nodB l = false) := Lib.hid fun i k hi hk e => nodB_false fun h => nodup_iff.1 h i k hi hk e
  clear hA
  generalize nodB l = R at *
  go_enter Tryd.func66, Tryd.ntmps66
  go_wp2_with fail
  go_loopw [3] (fun v wr => ∃ i q : Nat, i ≤ l.length ∧ v = .int .i64 (i : Int) ∧ wr = w.drewN q ∧ ∀ i' k, i' < i → k < i' → l.getD i' 0 ≠ l.getD k 0) (fun v _ => l.length - (intOf v).toNat)
  case atStart => exact ⟨0, 0, Nat.zero_le _, rfl, rfl, fun i k h => by omega⟩
  case round =>
    obtain ⟨i, q, hi, rfl, rfl, hs⟩ := hrel
    have HS := Lib.hid hs
    clear hs
    by_cases hlt : i < l.length
    · obtain ⟨b, off, rfl, hb, hc⟩ := Ints.cells HA.out hlt
      have HC := Lib.hid hc
      have HLT := Lib.hid hlt
      have hi0 : (0 : Int) ≤ (i : Int) := by omega
      have hi1 : (i : Int) < (l.length : Int) := by omega
      have hi2 : ((i : Int)).toNat = i := by omega
      have HM : Hid (l.length - ((i : Int) + 1).toNat < l.length - ((i : Int)).toNat) := Lib.hid (by omega)
      clear hc
      go_wp2_with fail
      go_loopw [4] (fun v wr => ∃ k q : Nat, k ≤ i ∧ v = .int .i64 (k : Int) ∧ wr = w.drewN q ∧ ∀ k', k' < k → l.getD i 0 ≠ l.getD k' 0) (fun v _ => i - (intOf v).toNat)
      case atStart => exact ⟨0, q, Nat.zero_le _, rfl, rfl, fun k h => by omega⟩
      case round =>
        obtain ⟨k, q2, hk, rfl, rfl, hs⟩ := hrel
        have HS2 := Lib.hid hs
        clear hs
        by_cases hlt2 : k < i
        · have ci := HC.out i HLT.out
          have ck := HC.out k (by have := HLT.out; omega)
          have HFI := Lib.hid (HF.out i k HLT.out hlt2)
          have hk0 : (0 : Int) ≤ (k : Int) := by omega
          have hk1 : (k : Int) < (l.length : Int) := by omega
          have hk2 : ((k : Int)).toNat = k := by omega
          by_cases he : l.getD i 0 = l.getD k 0
          · have HR := Lib.hid (HFI.out he)
            rw [he] at ci
            clear he
            generalize l.getD k 0 = y at ci ck
            have t2 : (y == y) = true := by simp
            go_wp2_with fail
            go_quiet (fail)
            go_wp2_with fail
            go_ret
            exact ⟨ret_bool (by rw [HR.out]), below_draws (below_draws (Below.refl _ _) q2) _⟩
          · have HS3 : Hid (∀ k', k' < k + 1 → l.getD i 0 ≠ l.getD k' 0) := Lib.hid fun k' hk' => by
              by_cases e : k' = k
              · subst e; exact he
              · exact HS2.out k' (by omega)
            generalize l.getD i 0 = x at *
            generalize l.getD k 0 = y at *
            have t2 : (x == y) = false := ne_beq he
            clear he
            go_wp2_with fail
            go_quiet (fail)
            go_wp2_with fail
            go_roundw
            case rel => exact ⟨k + 1, _, by omega, by go_num, rfl, HS3.out⟩
            case measure => simp [intOf]; omega
        · obtain rfl : k = i := by omega
          go_wp2_with fail
          go_roundw
          case rel => exact ⟨k + 1, q2, HLT.out, by go_num, rfl, fun i' k' h1 h2 => by
            by_cases e : i' = k
            · subst e; exact HS2.out k' h2
            · exact HS.out i' k' (by omega) h2⟩
          case measure => exact HM.out
    · have HR := Lib.hid (HT.out fun i' k h1 h2 => HS.out i' k (by omega) h2)
      go_wp2_with fail
      go_ret
      exact ⟨ret_bool (by rw [HR.out]), below_draws (Below.refl _ _) q⟩

end Go.Proofs.YthnhacncnhknnaaDoor

/-
  The reference's Valid. Printed by mkrval.py out of XMVal.
-/
namespace Go.Proofs.YthnhacncnhknnaaDoor
open Go.RowKit Go.Shelf

set_option maxRecDepth 100000 in
set_option maxHeartbeats 4000000 in
theorem validR6_any (a b : Gr) (m : Mo) (An : Option Addr) (cn : Nat) (Ae : Option Addr) (ce : Nat) (Bn : Option Addr) (dn : Nat) (Be : Option Addr) (de : Nat) (Mn : Option Addr) (mn : Nat) (Me : Option Addr) (me : Nat) (w : World)
    (hT : GrAt w An cn Ae ce a) (hU : GrAt w Bn dn Be de b) (hM : Ints w w.heap.size Mn m.ns) (hN : Ints w w.heap.size Me m.es) (hl1 : m.ns.length ≤ 1000) (hl2 : m.es.length ≤ 1000) :
    Calls Tryd.prog 30 #[gval An a.ns.length cn Ae a.es.length ce, gval Bn b.ns.length dn Be b.es.length de, gval Mn m.ns.length mn Me m.es.length me] w fun e w' => e = .returned (.int .i64 (morE a b m)) ∧ Below w.heap.size w w' := by
  obtain ⟨B, hB⟩ : ∃ B, B = w.heap.size := ⟨_, rfl⟩
  have hV0 := VS.new w (.slice An a.ns.length cn) (.slice Ae a.es.length ce) (.slice Bn b.ns.length dn) (.slice Be b.es.length de) (.slice Mn m.ns.length mn) (.slice Me m.es.length me)
  rw [← hB] at hV0
  have HV0 := Lib.hid hV0
  have HCa := Lib.hid (fun (u : World) (hu : Below w.heap.size w u) => validR_any a An cn Ae ce u (hT.up hu))
  have HCb := Lib.hid (fun (u : World) (hu : Below w.heap.size w u) => validR_any b Bn dn Be de u (hU.up hu))
  have HCE : Hid (chkE a b = if validE a ≠ 0 then validE a else validE b) := Lib.hid rfl
  have HR : Hid (morE a b m = if chkE a b ≠ 0 then chkE a b else if m.ns.length ≠ a.ns.length ∨ m.es.length ≠ a.es.length then 20
      else if fstN (mnAt a b m) 0 a.ns.length ≠ 0 then fstN (mnAt a b m) 0 a.ns.length else fstN (meAt a b m) 0 a.es.length) := Lib.hid (by
    unfold morE chkE
    by_cases h1 : validE a = 0
    · simp [h1]
    · simp [h1])
  have HCZ := Lib.hid (fun h => valid_zero (g := a) h)
  have HCV : Hid (chkE a b = 0 → validE a = 0) := Lib.hid (by unfold chkE; split <;> intro h <;> omega)
  have HT := Lib.hid hT
  have HU := Lib.hid hU
  have HM := Lib.hid hM
  have HM0 := Lib.hid hM
  have HN := Lib.hid hN
  have HVE := Lib.hid (fun (h : validE a = 0) i (hi : i < a.es.length) => valid_at h hi)
  clear hT hU hM hN hV0
  generalize morE a b m = R at HR ⊢
  generalize chkE a b = z at *
  generalize validE a = za at *
  generalize validE b = zb at *
  have HBW := Lib.hid hB
  go_enter Tryd.func30, Tryd.ntmps30
  go_wp2_with fail
  refine (HCa.out _ HV0.out.2.2.2.1).mono ?_
  rintro e w0 ⟨rfl, hb1⟩
  have hV := HV0.out.up hb1
  clear hb1 HV0 HCa
  have HV := Lib.hid hV
  have hp := hV.cells
  rw [hB] at hp
  obtain ⟨p1, p2, p3, p4, p5, p6⟩ := hp
  clear hV
  by_cases hz : za = 0
  case neg =>
    have HRR := Lib.hid (show R = za by rw [HR.out, HCE.out, if_pos hz, if_pos hz])
    have t1 : ((za : Int) != 0) = true := by simp; omega
    clear hz hB
    go_wp2_with fail
    go_ret
    exact ⟨ret_int (by rw [HRR.out]), HV.out.2.2.2.1⟩
  subst hz
  have HCE2 := Lib.hid (show z = zb by rw [HCE.out, if_neg (fun h => h rfl)])
  clear HCE
  have hBB := hB
  clear hB
  have HBB := Lib.hid hBB
  clear hBB
  go_wp2_with fail
  refine (HCb.out _ HV.out.2.2.2.1).mono ?_
  rintro e w1 ⟨rfl, hb1⟩
  have hV := HV.out.up hb1
  clear hb1 HV HCb p1 p2 p3 p4 p5 p6
  have HV := Lib.hid hV
  have hp := hV.cells
  rw [HBB.out] at hp
  obtain ⟨p1, p2, p3, p4, p5, p6⟩ := hp
  clear hV
  by_cases hz : zb = 0
  case neg =>
    have HRR := Lib.hid (show R = zb by rw [HR.out, HCE2.out, if_pos hz])
    have t1 : ((zb : Int) != 0) = true := by simp; omega
    clear hz
    go_wp2_with fail
    go_ret
    exact ⟨ret_int (by rw [HRR.out]), HV.out.2.2.2.1⟩
  subst hz
  have hz := HCE2.out
  clear HCE2 HBB
  subst hz
  have HR1 := Lib.hid (show R = if m.ns.length ≠ a.ns.length ∨ m.es.length ≠ a.es.length then 20 else if fstN (mnAt a b m) 0 a.ns.length ≠ 0 then fstN (mnAt a b m) 0 a.ns.length else fstN (meAt a b m) 0 a.es.length by rw [HR.out, if_neg (fun h => h rfl)])
  clear HR
  by_cases h1 : m.ns.length = a.ns.length
  case neg =>
    have HRR := Lib.hid (show R = 20 by rw [HR1.out, if_pos (.inl h1)])
    have t1 : ((m.ns.length : Int) != (a.ns.length : Int)) = true := by simp; omega
    clear h1
    go_wp2_with fail
    go_ret
    exact ⟨ret_int (by rw [HRR.out]; rfl), HV.out.2.2.2.1⟩
  by_cases h2 : m.es.length = a.es.length
  case neg =>
    have HRR := Lib.hid (show R = 20 by rw [HR1.out, if_pos (.inr h2)])
    have t1 : ((m.ns.length : Int) != (a.ns.length : Int)) = false := by simp; omega
    have t2 : ((m.es.length : Int) != (a.es.length : Int)) = true := by simp; omega
    clear h1 h2
    go_wp2_with fail
    go_ret
    exact ⟨ret_int (by rw [HRR.out]; rfl), HV.out.2.2.2.1⟩
  have HR2 := Lib.hid (show R = if fstN (mnAt a b m) 0 a.ns.length ≠ 0 then fstN (mnAt a b m) 0 a.ns.length else fstN (meAt a b m) 0 a.es.length by rw [HR1.out, if_neg (fun h => h.elim (fun h => h h1) (fun h => h h2))])
  have t1 : ((m.ns.length : Int) != (a.ns.length : Int)) = false := by simp; omega
  have t2 : ((m.es.length : Int) != (a.es.length : Int)) = false := by simp; omega
  have HL1 := Lib.hid h1
  have HL2 := Lib.hid h2
  have HVA := Lib.hid (HVE.out (HCV.out rfl))
  obtain ⟨n40, e80, _⟩ := HCZ.out (HCV.out rfl)
  clear HR1 HCZ HCV HVE h1 h2
  have HHIT := Lib.hid (fun k (h : k < a.ns.length) hf => fstN_hit (f := mnAt a b m) h hf)
  have HPASS := Lib.hid (fun k (h : k < a.ns.length) hf => fstN_pass (f := mnAt a b m) h hf)
  have HEND := Lib.hid (fun k (h : a.ns.length ≤ k) => fstN_end (f := mnAt a b m) h)
  have HF : Hid (∀ k, mnAt a b m k = if idxB (m.ns.getD k 0) b.ns.length = false then 6 else if b.ns.getD (m.ns.getD k 0).toNat 0 ≠ a.ns.getD k 0 then 13 else 0) := Lib.hid fun k => rfl
  have HS0 : Hid (fstN (mnAt a b m) 0 a.ns.length = fstN (mnAt a b m) 0 (a.ns.length - 0)) := Lib.hid rfl
  obtain ⟨S, hS⟩ : ∃ S, S = fstN (mnAt a b m) 0 a.ns.length := ⟨_, rfl⟩
  rw [← hS] at HR2 HS0
  clear hS
  generalize mnAt a b m = f at *
  go_wp2_with fail
  clear t1 t2 p1 p2 p3 p4 p5 p6
  go_loopw [9] (fun v wr => ∃ k q : Nat, k ≤ a.ns.length ∧ v = .int .i64 (k : Int) ∧ S = fstN f k (a.ns.length - k) ∧ wr = w1.drewN q) (fun v _ => a.ns.length - (intOf v).toNat)
  case atStart => exact ⟨0, 0, Nat.zero_le _, rfl, HS0.out, rfl⟩
  case round =>
    obtain ⟨k, q, hk, rfl, hSk, rfl⟩ := hrel
    have HSK := Lib.hid hSk
    clear hSk
    have hp := HV.out.cells
    rw [HBW.out] at hp
    obtain ⟨p1, p2, p3, p4, p5, p6⟩ := hp
    by_cases hlt : k < a.ns.length
    · have hla := hlt
      have hlm : k < m.ns.length := by rw [HL1.out]; exact hlt
      obtain ⟨g1, o1, rfl, hg1, hc1⟩ := Ints.cells (HM.out.below HV.out.2.2.2.1) hlm
      obtain ⟨g2, o2, rfl, hg2, hc2⟩ := Ints.cells (HT.out.ns.below HV.out.2.2.2.1) hla
      have c1 := hc1 k hlm
      have c2 := hc2 k hla
      have HFK := Lib.hid (HF.out k)
      have k0 : (0 : Int) ≤ (k : Int) := by omega
      have k1 : (k : Int) < (m.ns.length : Int) := by omega
      have k1' : (k : Int) < (a.ns.length : Int) := by omega
      have k2 : ((k : Int)).toNat = k := by omega
      by_cases hi : idxB (m.ns.getD k 0) b.ns.length = true
      case neg =>
        have hi' : idxB (m.ns.getD k 0) b.ns.length = false := by simpa using hi
        have hf6 : f k = 6 := by rw [HFK.out, if_pos hi']
        have HRR := Lib.hid (show R = 6 by rw [HR2.out, HSK.out, HHIT.out k hla (by omega), hf6]; rfl)
        have hx := idxB_not.1 hi'
        clear hi hi' hf6 hc1 hc2 hla hlm
        generalize m.ns.getD k 0 = x at *
        by_cases hx0 : x < 0
        · have t3 : decide (x < 0) = true := decide_eq_true hx0
          clear hx hx0
          go_wp2_with fail
          go_quiet (fail)
          go_wp2_with fail
          go_ret
          exact ⟨ret_int (by rw [HRR.out]; rfl), below_draws (below_draws HV.out.2.2.2.1 _) _⟩
        · have t3 : decide (x < 0) = false := decide_eq_false hx0
          have t4 : decide (x ≥ (b.ns.length : Int)) = true := decide_eq_true (by omega)
          have hx5 : (b.ns.length : Int) ≤ x := by omega
          have hx6 : ¬ x < (b.ns.length : Int) := by omega
          clear hx hx0
          go_wp2_with fail
          go_quiet (fail)
          go_wp2_with fail
          go_ret
          exact ⟨ret_int (by rw [HRR.out]; rfl), below_draws (below_draws HV.out.2.2.2.1 _) _⟩
      have hx := idxB_iff.1 hi
      obtain ⟨j, hj⟩ : ∃ j : Nat, m.ns.getD k 0 = (j : Int) := ⟨(m.ns.getD k 0).toNat, by omega⟩
      rw [hj] at c1 hx hi HFK
      rw [Int.toNat_natCast] at HFK
      have hjl : j < b.ns.length := by omega
      obtain ⟨g3, o3, rfl, hg3, hc3⟩ := Ints.cells (HU.out.ns.below HV.out.2.2.2.1) hjl
      have c3 := hc3 j hjl
      have j0 : (0 : Int) ≤ (j : Int) := by omega
      have j1 : (j : Int) < (b.ns.length : Int) := by omega
      have j2 : ((j : Int)).toNat = j := by omega
      have t3 : decide ((j : Int) < 0) = false := decide_eq_false (by omega)
      have t4 : decide ((j : Int) ≥ (b.ns.length : Int)) = false := decide_eq_false (by omega)
      have HLA := Lib.hid hla
      have HI := Lib.hid hi
      clear hc1 hc2 hc3 hla hlm hx hj hi
      by_cases he : b.ns.getD j 0 = a.ns.getD k 0
      case neg =>
        have hf : f k = 13 := by rw [HFK.out, if_neg (by rw [HI.out]; simp), if_pos he]
        have HRR := Lib.hid (show R = 13 by rw [HR2.out, HSK.out, HHIT.out k HLA.out (by omega), hf]; rfl)
        have t : (b.ns.getD j 0 != a.ns.getD k 0) = true := bne_iff_ne.2 he
        clear hf he
        generalize b.ns.getD j 0 = y at *
        generalize a.ns.getD k 0 = y2 at *
        go_wp2_with fail
        go_quiet (fail)
        go_wp2_with fail
        go_quiet (fail)
        go_wp2_with fail
        go_ret
        exact ⟨ret_int (by rw [HRR.out]; rfl), below_draws (below_draws (below_draws HV.out.2.2.2.1 _) _) _⟩
      have hf : f k = 0 := by rw [HFK.out, if_neg (by rw [HI.out]; simp), if_neg (fun h => h he)]
      have HE := Lib.hid (show S = fstN f (k + 1) (a.ns.length - (k + 1)) by rw [HSK.out, HPASS.out k HLA.out hf])
      have t : (b.ns.getD j 0 != a.ns.getD k 0) = false := by rw [he]; exact bne_self_eq_false _
      clear hf he
      generalize b.ns.getD j 0 = y at *
      generalize a.ns.getD k 0 = y2 at *
      have HM2 : Hid (a.ns.length - ((k : Int) + 1).toNat < a.ns.length - ((k : Int)).toNat) := Lib.hid (by omega)
      go_wp2_with fail
      go_quiet (fail)
      go_wp2_with fail
      go_quiet (fail)
      go_wp2_with fail
      go_roundw
      case rel => exact ⟨k + 1, _, HLA.out, by go_num, HE.out, rfl⟩
      case measure => exact HM2.out
    · obtain rfl : k = a.ns.length := by omega
      have hS0 : S = 0 := by rw [HSK.out]; exact HEND.out _ (Nat.le_refl _)
      have HR3 := Lib.hid (show R = fstN (meAt a b m) 0 a.es.length by rw [HR2.out, hS0]; simp)
      have HVD : Hid (VS B (.slice An a.ns.length cn) (.slice Ae a.es.length ce) (.slice Bn b.ns.length dn) (.slice Be b.es.length de) (.slice Mn m.ns.length mn) (.slice Me m.es.length me) w (w1.drewN q)) := Lib.hid (HV.out.up (below_draws (Below.refl _ _) q))
      have HB0 := Lib.hid HBW.out
      clear HR2 HSK HHIT HPASS HEND HF HS0 hS0 hlt hk HV
      have HHIT := Lib.hid (fun k (h : k < a.es.length) hf => fstN_hit (f := meAt a b m) h hf)
      have HPASS := Lib.hid (fun k (h : k < a.es.length) hf => fstN_pass (f := meAt a b m) h hf)
      have HEND := Lib.hid (fun k (h : a.es.length ≤ k) => fstN_end (f := meAt a b m) h)
      have HF : Hid (∀ k, meAt a b m k = if idxB (m.es.getD k 0) b.es.length = false then 6
          else if (a.es.getD k default).ty ≠ (b.es.getD (m.es.getD k 0).toNat default).ty then 13
          else if m.ns.getD (a.es.getD k default).fr.toNat 0 ≠ (b.es.getD (m.es.getD k 0).toNat default).fr ∨ m.ns.getD (a.es.getD k default).tq.toNat 0 ≠ (b.es.getD (m.es.getD k 0).toNat default).tq then 11 else 0) := Lib.hid fun k => rfl
      have HS0 : Hid (R = fstN (meAt a b m) 0 (a.es.length - 0)) := Lib.hid HR3.out
      clear HR3
      generalize meAt a b m = f at *
      go_wp2_with fail
      clear p1 p2 p3 p4 p5 p6
      go_loopw [10] (fun v wr => ∃ k : Nat, k ≤ a.es.length ∧ v = .int .i64 (k : Int) ∧ R = fstN f k (a.es.length - k) ∧ VS B (.slice An a.ns.length cn) (.slice Ae a.es.length ce) (.slice Bn b.ns.length dn) (.slice Be b.es.length de) (.slice Mn m.ns.length mn) (.slice Me m.es.length me) w wr) (fun v _ => a.es.length - (intOf v).toNat)
      case atStart => exact ⟨0, Nat.zero_le _, rfl, HS0.out, HVD.out⟩
      case round =>
        obtain ⟨k, hk, rfl, hRk, hV⟩ := hrel
        have HRK := Lib.hid hRk
        have HV := Lib.hid hV
        have hp := hV.cells
        have hbel := hV.2.2.2.1
        rw [HB0.out] at hp
        obtain ⟨p1, p2, p3, p4, p5, p6⟩ := hp
        clear hRk HS0 HVD hV
        by_cases hlt : k < a.es.length
        · have hla := hlt
          have hlm : k < m.es.length := by rw [HL2.out]; exact hlt
          obtain ⟨g1, o1, rfl, hg1, hc1⟩ := Ints.cells (HN.out.below hbel) hlm
          obtain ⟨g2, o2, rfl, hg2, hc2⟩ := Eds.cells (HT.out.es.below hbel) hla
          have c1 := hc1 k hlm
          obtain ⟨d1, d2, d3⟩ := hc2 k hla
          have HFK := Lib.hid (HF.out k)
          have hva := HVA.out k hla
          have k0 : (0 : Int) ≤ (k : Int) := by omega
          have k1 : (k : Int) < (m.es.length : Int) := by omega
          have k1' : (k : Int) < (a.es.length : Int) := by omega
          have k2 : ((k : Int)).toNat = k := by omega
          by_cases hi : idxB (m.es.getD k 0) b.es.length = true
          case neg =>
            have hi' : idxB (m.es.getD k 0) b.es.length = false := by simpa using hi
            have hf6 : f k = 6 := by rw [HFK.out, if_pos hi']
            have HRR := Lib.hid (show R = 6 by rw [HRK.out, HHIT.out k hla (by omega), hf6])
            have hx := idxB_not.1 hi'
            clear hi hi' hf6 hc1 hc2 hla hlm hbel hva d1 d2 d3
            generalize m.es.getD k 0 = x at *
            by_cases hx0 : x < 0
            · have t3 : decide (x < 0) = true := decide_eq_true hx0
              clear hx hx0
              go_wp2_with fail
              go_quiet (fail)
              go_wp2_with fail
              go_ret
              exact ⟨ret_int (by rw [HRR.out]; rfl), below_draws HV.out.2.2.2.1 _⟩
            · have t3 : decide (x < 0) = false := decide_eq_false hx0
              have t4 : decide (x ≥ (b.es.length : Int)) = true := decide_eq_true (by omega)
              have hx5 : (b.es.length : Int) ≤ x := by omega
              have hx6 : ¬ x < (b.es.length : Int) := by omega
              clear hx hx0
              go_wp2_with fail
              go_quiet (fail)
              go_wp2_with fail
              go_ret
              exact ⟨ret_int (by rw [HRR.out]; rfl), below_draws HV.out.2.2.2.1 _⟩
          have hx := idxB_iff.1 hi
          obtain ⟨j, hj⟩ : ∃ j : Nat, m.es.getD k 0 = (j : Int) := ⟨(m.es.getD k 0).toNat, by omega⟩
          rw [hj] at c1 hx hi HFK
          rw [Int.toNat_natCast] at HFK
          have hjl : j < b.es.length := by omega
          obtain ⟨g3, o3, rfl, hg3, hc3⟩ := Eds.cells (HU.out.es.below hbel) hjl
          obtain ⟨e1, e2, e3⟩ := hc3 j hjl
          have j0 : (0 : Int) ≤ (j : Int) := by omega
          have j1 : (j : Int) < (b.es.length : Int) := by omega
          have j2 : ((j : Int)).toNat = j := by omega
          have t3 : decide ((j : Int) < 0) = false := decide_eq_false (by omega)
          have t4 : decide ((j : Int) ≥ (b.es.length : Int)) = false := decide_eq_false (by omega)
          have HLA := Lib.hid hla
          have HI := Lib.hid hi
          have HVK := Lib.hid hva
          clear hc1 hc2 hc3 hla hlm hx hj hi hva
          generalize a.es.getD k default = xa at *
          generalize b.es.getD j default = xb at *
          obtain ⟨ty, fr, tt⟩ := xa
          obtain ⟨ty2, fr2, tt2⟩ := xb
          dsimp only at *
          go_wp2_with fail
          go_quiet (fail)
          go_upto_region 21 with fail
          clear t3 t4
          generalize hwx : wr.drewN _ = wx
          have hbx : Below wr.heap.size wr wx := by rw [← hwx]; exact below_draws (Below.refl _ _) _
          have HVX := Lib.hid (HV.out.up hbx.drew)
          have hp := HVX.out.cells
          rw [HB0.out] at hp
          clear p1 p2 p3 p4 p5 p6
          obtain ⟨p1, p2, p3, p4, p5, p6⟩ := hp
          have cx : ∀ {g o : Nat} {v : Value}, wr.cell? ⟨g, o, none⟩ = some v → wx.drew.cell? ⟨g, o, none⟩ = some v := fun {g o v} h => (hbx.drew.cell (p := ⟨g, o, none⟩) (World.block_lt_of_cell? wr _ h)).trans h
          have HM := Lib.hid (show ∀ u, Below wx.drew.heap.size wx.drew u → (fun u : World => u.cell? ⟨w.heap.size, 1, none⟩ = some (.slice (some ⟨g2, o2, none⟩) a.es.length ce) ∧ u.cell? ⟨g2, o2 + k * 3, none⟩ = some (.int .i64 ty) ∧ u.cell? ⟨g2, o2 + k * 3 + 1, none⟩ = some (.int .i64 fr) ∧ u.cell? ⟨g2, o2 + k * 3 + 2, none⟩ = some (.int .i64 tt) ∧ u.cell? ⟨w.heap.size + 1, 1, none⟩ = some (.slice (some ⟨g3, o3, none⟩) b.es.length de) ∧ u.cell? ⟨w.heap.size + 1 + 1, 1, none⟩ = some (.slice (some ⟨g1, o1, none⟩) m.es.length me) ∧ u.cell? ⟨g1, o1 + k, none⟩ = some (.int .i64 (j : Int)) ∧ u.cell? ⟨g3, o3 + j * 3, none⟩ = some (.int .i64 ty2) ∧ u.cell? ⟨g3, o3 + j * 3 + 1, none⟩ = some (.int .i64 fr2) ∧ u.cell? ⟨g3, o3 + j * 3 + 2, none⟩ = some (.int .i64 tt2)) u from fun u hb => by
            have up : ∀ {g o : Nat} {v : Value}, wx.drew.cell? ⟨g, o, none⟩ = some v → u.cell? ⟨g, o, none⟩ = some v := fun {g o v} h => (hb.cell (p := ⟨g, o, none⟩) (World.block_lt_of_cell? _ _ h)).trans h
            exact ⟨up p2, up (cx d1), up (cx d2), up (cx d3), up p4, up p6, up (cx c1), up (cx e1), up (cx e2), up (cx e3)⟩)
          have HS := Lib.hid (HM.out _ (Below.refl _ _))
          clear hwx hbx p1 p2 p3 p4 p5 p6 c1 d1 d2 d3 e1 e2 e3 cx
          go_cut [11, 12] (fun u v wc => ∃ gx gy, u = .pointer (some ⟨gx, 0, none⟩) ∧ v = .pointer (some ⟨gy, 0, none⟩) ∧ wc.heap[gx]? = some (.cells #[.int .i64 ty, .int .i64 fr, .int .i64 tt] 73 (0, 0)) ∧ wc.heap[gy]? = some (.cells #[.int .i64 ty2, .int .i64 fr2, .int .i64 tt2] 73 (0, 0)) ∧
            VS B (.slice An a.ns.length cn) (.slice (some ⟨g2, o2, none⟩) a.es.length ce) (.slice Bn b.ns.length dn) (.slice (some ⟨g3, o3, none⟩) b.es.length de) (.slice Mn m.ns.length mn) (.slice (some ⟨g1, o1, none⟩) m.es.length me) w wc)
          case first =>
            go_wp2_with fail
            refine wp_region_noPanic ?_
            refine wp_region_held_drew (S := (fun u : World => u.cell? ⟨w.heap.size, 1, none⟩ = some (.slice (some ⟨g2, o2, none⟩) a.es.length ce) ∧ u.cell? ⟨g2, o2 + k * 3, none⟩ = some (.int .i64 ty) ∧ u.cell? ⟨g2, o2 + k * 3 + 1, none⟩ = some (.int .i64 fr) ∧ u.cell? ⟨g2, o2 + k * 3 + 2, none⟩ = some (.int .i64 tt) ∧ u.cell? ⟨w.heap.size + 1, 1, none⟩ = some (.slice (some ⟨g3, o3, none⟩) b.es.length de) ∧ u.cell? ⟨w.heap.size + 1 + 1, 1, none⟩ = some (.slice (some ⟨g1, o1, none⟩) m.es.length me) ∧ u.cell? ⟨g1, o1 + k, none⟩ = some (.int .i64 (j : Int)) ∧ u.cell? ⟨g3, o3 + j * 3, none⟩ = some (.int .i64 ty2) ∧ u.cell? ⟨g3, o3 + j * 3 + 1, none⟩ = some (.int .i64 fr2) ∧ u.cell? ⟨g3, o3 + j * 3 + 2, none⟩ = some (.int .i64 tt2))) (by kernel_rfl) (HS.out) (fun hHeld => ?_)
            have Bwd := Below.refl wx.drew.heap.size wx.drew
            generalize wx.drew = wd at *
            refine wpAnyH_take (i := 0) (v := ?_) (oper_at (r := _) rfl) (by kernel_rfl) (by kernel_rfl) (by kernel_rfl) (fun _ _ _ h => h) (Or.inl ⟨by rfl, ?_⟩) (by assumption) ?_
            rotate_left
            · intro w hSw; try dsimp only at hSw
              go_simp
              try with_reducible rfl
            try simp only [Act.put, List.setIfInBounds_toArray, List.set_cons_zero, List.set_cons_succ]
            refine wpAnyH_take (i := 1) (v := ?_) (oper_at (r := _) rfl) (by kernel_rfl) (by kernel_rfl) (by kernel_rfl) (fun _ _ _ h => h) (Or.inl ⟨by rfl, ?_⟩) (by assumption) ?_
            rotate_left
            · intro w hSw; try dsimp only at hSw
              go_simp
              try with_reducible rfl
            try simp only [Act.put, List.setIfInBounds_toArray, List.set_cons_zero, List.set_cons_succ]
            refine wpAnyH_take (i := 2) (v := ?_) (oper_at (r := _) rfl) (by kernel_rfl) (by kernel_rfl) (by kernel_rfl) (fun _ _ _ h => h) (Or.inl ⟨by rfl, ?_⟩) (by assumption) ?_
            rotate_left
            · intro w hSw; try dsimp only at hSw
              go_simp
              try with_reducible rfl
            try simp only [Act.put, List.setIfInBounds_toArray, List.set_cons_zero, List.set_cons_succ]
            refine wpAnyH_take (i := 3) (v := ?_) (oper_at (r := _) rfl) (by kernel_rfl) (by kernel_rfl) (by kernel_rfl) (fun _ _ _ h => h) (Or.inl ⟨by rfl, ?_⟩) (by assumption) ?_
            rotate_left
            · intro w hSw; try dsimp only at hSw
              go_simp
              try with_reducible rfl
            try simp only [Act.put, List.setIfInBounds_toArray, List.set_cons_zero, List.set_cons_succ]
            refine wpAnyH_take (i := 4) (v := ?_) (oper_at (r := _) rfl) (by kernel_rfl) (by kernel_rfl) (by kernel_rfl) (fun _ _ _ h => h) (Or.inl ⟨by rfl, ?_⟩) (by assumption) ?_
            rotate_left
            · intro w hSw; try dsimp only at hSw
              go_simp
              try with_reducible rfl
            try simp only [Act.put, List.setIfInBounds_toArray, List.set_cons_zero, List.set_cons_succ]
            refine wpAnyH_take (i := 5) (v := ?_) (oper_at (r := _) rfl) (by kernel_rfl) (by kernel_rfl) (by kernel_rfl) (fun _ _ _ h => h) (Or.inl ⟨by rfl, ?_⟩) (by assumption) ?_
            rotate_left
            · intro w hSw; try dsimp only at hSw
              go_simp
              try with_reducible rfl
            try simp only [Act.put, List.setIfInBounds_toArray, List.set_cons_zero, List.set_cons_succ]
            refine wpAnyH_take (i := 6) (v := ?_) (oper_at (r := _) rfl) (by kernel_rfl) (by kernel_rfl) (by kernel_rfl) (fun _ _ _ h => h) (Or.inl ⟨by rfl, ?_⟩) (by assumption) ?_
            rotate_left
            · intro w hSw; try dsimp only at hSw
              go_simp
              try with_reducible rfl
            try simp only [Act.put, List.setIfInBounds_toArray, List.set_cons_zero, List.set_cons_succ]
            refine wpAnyH_take (i := 7) (v := ?_) (oper_at (r := _) rfl) (by kernel_rfl) (by kernel_rfl) (by kernel_rfl) (fun _ _ _ h => h) (Or.inl ⟨by rfl, ?_⟩) (by assumption) ?_
            rotate_left
            · intro w hSw; try dsimp only at hSw
              go_simp
              try with_reducible rfl
            try simp only [Act.put, List.setIfInBounds_toArray, List.set_cons_zero, List.set_cons_succ]
            refine wpAnyH_take (i := 8) (v := ?_) (oper_at (r := _) rfl) (by kernel_rfl) (by kernel_rfl) (by kernel_rfl) (fun _ _ _ h => h) (Or.inl ⟨by rfl, ?_⟩) (by assumption) ?_
            rotate_left
            · intro w hSw; try dsimp only at hSw
              go_simp
              try with_reducible rfl
            try simp only [Act.put, List.setIfInBounds_toArray, List.set_cons_zero, List.set_cons_succ]
            refine wpAnyH_take (i := 9) (v := ?_) (oper_at (r := _) rfl) (by kernel_rfl) (by kernel_rfl) (by kernel_rfl) (fun _ _ _ h => h) (Or.inl ⟨by rfl, ?_⟩) (by assumption) ?_
            rotate_left
            · intro w hSw; try dsimp only at hSw
              go_simp
              try with_reducible rfl
            try simp only [Act.put, List.setIfInBounds_toArray, List.set_cons_zero, List.set_cons_succ]
            refine wpAnyH_take (i := 10) (v := ?_) (oper_at (r := _) rfl) (by kernel_rfl) (by kernel_rfl) (by kernel_rfl) (fun _ _ _ h => h) (Or.inl ⟨by rfl, ?_⟩) (by assumption) ?_
            rotate_left
            · intro w hSw; try dsimp only at hSw
              go_simp
              try with_reducible rfl
            try simp only [Act.put, List.setIfInBounds_toArray, List.set_cons_zero, List.set_cons_succ]
            refine wpAnyH_take (i := 11) (v := ?_) (oper_at (r := _) rfl) (by kernel_rfl) (by kernel_rfl) (by kernel_rfl) (fun _ _ _ h => h) (Or.inl ⟨by rfl, ?_⟩) (by assumption) ?_
            rotate_left
            · intro w hSw; try dsimp only at hSw
              go_simp
              try with_reducible rfl
            try simp only [Act.put, List.setIfInBounds_toArray, List.set_cons_zero, List.set_cons_succ]
            refine wpAnyH_take (i := 12) (v := ?_) (oper_at (r := _) rfl) (by kernel_rfl) (by kernel_rfl) (by kernel_rfl) (fun _ _ _ h => h) (Or.inl ⟨by rfl, ?_⟩) (by assumption) ?_
            rotate_left
            · intro w hSw; try dsimp only at hSw
              go_simp
              try with_reducible rfl
            try simp only [Act.put, List.setIfInBounds_toArray, List.set_cons_zero, List.set_cons_succ]
            refine wpAnyH_take (i := 13) (v := ?_) (oper_at (r := _) rfl) (by kernel_rfl) (by kernel_rfl) (by kernel_rfl) (fun _ _ _ h => h) (Or.inl ⟨by rfl, ?_⟩) (by assumption) ?_
            rotate_left
            · intro w hSw; try dsimp only at hSw
              go_simp
              try with_reducible rfl
            try simp only [Act.put, List.setIfInBounds_toArray, List.set_cons_zero, List.set_cons_succ]
            refine wpAnyH_ready (rs := [14, 15]) (by kernel_rfl) (by simp) ?_
            refine (AllReadyH.cons (oper_at (r := _) rfl) (fun K hK => ?_) (AllReadyH.cons (oper_at (r := _) rfl) (fun K hK => ?_) AllReadyH.nil))
            · skip
              obtain ⟨gx, hgx⟩ : ∃ g, g = wd.heap.size := ⟨_, rfl⟩
              have lgx : wd.heap.size ≤ gx := by rw [hgx]; exact Bwd.size
              have BW1 := (Bwd).alloc (Bwd).size (.cells #[.int .i64 0, .int .i64 0, .int .i64 0] 73)
              have XW1 := heap_alloc_new wd (.cells #[.int .i64 0, .int .i64 0, .int .i64 0] 73)
              rw [← hgx] at XW1
              go_simp
              refine hK.out _ _ (HM.out _ BW1) (fun _ => ?_)
              clear hK K
              try simp only [Act.put, List.setIfInBounds_toArray, List.set_cons_zero, List.set_cons_succ]
              generalize wd.alloc (.cells #[.int .i64 0, .int .i64 0, .int .i64 0] 73) = W1 at *
              rw [← hgx]
              clear hgx
              refine wpAnyH_ready (rs := [15]) (by kernel_rfl) (by simp) ?_
              refine (AllReadyH.cons (oper_at (r := _) rfl) (fun K hK => ?_) AllReadyH.nil)
              · skip
                obtain ⟨gy, hgy⟩ : ∃ g, g = W1.heap.size := ⟨_, rfl⟩
                have lgy : wd.heap.size ≤ gy := by rw [hgy]; exact BW1.size
                have BW2 := (BW1).alloc (BW1).size (.cells #[.int .i64 0, .int .i64 0, .int .i64 0] 73)
                have YW2 := heap_alloc_new W1 (.cells #[.int .i64 0, .int .i64 0, .int .i64 0] 73)
                rw [← hgy] at YW2
                have XW2 := (Below.heap_alloc W1 (.cells #[.int .i64 0, .int .i64 0, .int .i64 0] 73) _ (heap_lt XW1)).trans XW1
                have hne : gx ≠ gy := by have := heap_lt XW1; omega
                go_simp
                refine hK.out _ _ (HM.out _ BW2) (fun _ => ?_)
                clear hK K
                try simp only [Act.put, List.setIfInBounds_toArray, List.set_cons_zero, List.set_cons_succ]
                generalize W1.alloc (.cells #[.int .i64 0, .int .i64 0, .int .i64 0] 73) = W2 at *
                rw [← hgy]
                clear hgy
                refine wpAnyH_ready (rs := [16]) (by kernel_rfl) (by simp) ?_
                refine (AllReadyH.cons (oper_at (r := _) rfl) (fun K hK => ?_) AllReadyH.nil)
                · skip
                  obtain ⟨s0, s1, s2⟩ := cell3 XW2
                  have f0 : W2.frozen? ⟨gx, 0, none⟩ = false := frozen_of_row _ _ _ _ _ XW2
                  have f1 : W2.frozen? ⟨gx, 1, none⟩ = false := frozen_of_row _ _ _ _ _ XW2
                  have f2 : W2.frozen? ⟨gx, 2, none⟩ = false := frozen_of_row _ _ _ _ _ XW2
                  have XW3 := set3R (x := .int .i64 ty) (y := .int .i64 fr) (z := .int .i64 tt) XW2
                  have YW3 := (set3_other (W := W2) (g := gx) (k := gy) (.int .i64 ty) (.int .i64 fr) (.int .i64 tt) (by omega)).trans YW2
                  have BW3 := ((BW2.setCell (p := ⟨gx, 0, none⟩) lgx (.int .i64 ty)).setCell (p := ⟨gx, 1, none⟩) lgx (.int .i64 fr)).setCell (p := ⟨gx, 2, none⟩) lgx (.int .i64 tt)
                  go_simp
                  refine hK.out _ _ (HM.out _ BW3) (fun _ => ?_)
                  clear hK K
                  try simp only [Act.put, List.setIfInBounds_toArray, List.set_cons_zero, List.set_cons_succ]
                  clear s0 s1 s2 f0 f1 f2
                  generalize ((W2.setCell ⟨gx, 0, none⟩ (.int .i64 ty)).setCell ⟨gx, 1, none⟩ (.int .i64 fr)).setCell ⟨gx, 2, none⟩ (.int .i64 tt) = W3 at *
                  refine wpAnyH_ready (rs := [17]) (by kernel_rfl) (by simp) ?_
                  refine (AllReadyH.cons (oper_at (r := _) rfl) (fun K hK => ?_) AllReadyH.nil)
                  · skip
                    obtain ⟨s0, s1, s2⟩ := cell3 YW3
                    have f0 : W3.frozen? ⟨gy, 0, none⟩ = false := frozen_of_row _ _ _ _ _ YW3
                    have f1 : W3.frozen? ⟨gy, 1, none⟩ = false := frozen_of_row _ _ _ _ _ YW3
                    have f2 : W3.frozen? ⟨gy, 2, none⟩ = false := frozen_of_row _ _ _ _ _ YW3
                    have YW4 := set3R (x := .int .i64 ty2) (y := .int .i64 fr2) (z := .int .i64 tt2) YW3
                    have XW4 := (set3_other (W := W3) (g := gy) (k := gx) (.int .i64 ty2) (.int .i64 fr2) (.int .i64 tt2) (by omega)).trans XW3
                    have BW4 := ((BW3.setCell (p := ⟨gy, 0, none⟩) lgy (.int .i64 ty2)).setCell (p := ⟨gy, 1, none⟩) lgy (.int .i64 fr2)).setCell (p := ⟨gy, 2, none⟩) lgy (.int .i64 tt2)
                    go_simp
                    refine hK.out _ _ (HM.out _ BW4) (fun _ => ?_)
                    clear hK K
                    try simp only [Act.put, List.setIfInBounds_toArray, List.set_cons_zero, List.set_cons_succ]
                    clear s0 s1 s2 f0 f1 f2
                    generalize ((W3.setCell ⟨gy, 0, none⟩ (.int .i64 ty2)).setCell ⟨gy, 1, none⟩ (.int .i64 fr2)).setCell ⟨gy, 2, none⟩ (.int .i64 tt2) = W4 at *
                    refine wpAnyH_done (by kernel_rfl) ?_ _
                    refine NoPanic.normal ?_
                    go_wp2_with fail
                    go_meet
                    exact ⟨gx, gy, rfl, rfl, XW4, YW4, HVX.out.up BW4⟩
            · skip
              obtain ⟨gy, hgy⟩ : ∃ g, g = wd.heap.size := ⟨_, rfl⟩
              have lgy : wd.heap.size ≤ gy := by rw [hgy]; exact Bwd.size
              have BW5 := (Bwd).alloc (Bwd).size (.cells #[.int .i64 0, .int .i64 0, .int .i64 0] 73)
              have YW5 := heap_alloc_new wd (.cells #[.int .i64 0, .int .i64 0, .int .i64 0] 73)
              rw [← hgy] at YW5
              go_simp
              refine hK.out _ _ (HM.out _ BW5) (fun _ => ?_)
              clear hK K
              try simp only [Act.put, List.setIfInBounds_toArray, List.set_cons_zero, List.set_cons_succ]
              generalize wd.alloc (.cells #[.int .i64 0, .int .i64 0, .int .i64 0] 73) = W5 at *
              rw [← hgy]
              clear hgy
              refine wpAnyH_ready (rs := [14]) (by kernel_rfl) (by simp) ?_
              refine (AllReadyH.cons (oper_at (r := _) rfl) (fun K hK => ?_) AllReadyH.nil)
              · skip
                obtain ⟨gx, hgx⟩ : ∃ g, g = W5.heap.size := ⟨_, rfl⟩
                have lgx : wd.heap.size ≤ gx := by rw [hgx]; exact BW5.size
                have BW6 := (BW5).alloc (BW5).size (.cells #[.int .i64 0, .int .i64 0, .int .i64 0] 73)
                have XW6 := heap_alloc_new W5 (.cells #[.int .i64 0, .int .i64 0, .int .i64 0] 73)
                rw [← hgx] at XW6
                have YW6 := (Below.heap_alloc W5 (.cells #[.int .i64 0, .int .i64 0, .int .i64 0] 73) _ (heap_lt YW5)).trans YW5
                have hne : gx ≠ gy := by have := heap_lt YW5; omega
                go_simp
                refine hK.out _ _ (HM.out _ BW6) (fun _ => ?_)
                clear hK K
                try simp only [Act.put, List.setIfInBounds_toArray, List.set_cons_zero, List.set_cons_succ]
                generalize W5.alloc (.cells #[.int .i64 0, .int .i64 0, .int .i64 0] 73) = W6 at *
                rw [← hgx]
                clear hgx
                refine wpAnyH_ready (rs := [16]) (by kernel_rfl) (by simp) ?_
                refine (AllReadyH.cons (oper_at (r := _) rfl) (fun K hK => ?_) AllReadyH.nil)
                · skip
                  obtain ⟨s0, s1, s2⟩ := cell3 XW6
                  have f0 : W6.frozen? ⟨gx, 0, none⟩ = false := frozen_of_row _ _ _ _ _ XW6
                  have f1 : W6.frozen? ⟨gx, 1, none⟩ = false := frozen_of_row _ _ _ _ _ XW6
                  have f2 : W6.frozen? ⟨gx, 2, none⟩ = false := frozen_of_row _ _ _ _ _ XW6
                  have XW7 := set3R (x := .int .i64 ty) (y := .int .i64 fr) (z := .int .i64 tt) XW6
                  have YW7 := (set3_other (W := W6) (g := gx) (k := gy) (.int .i64 ty) (.int .i64 fr) (.int .i64 tt) (by omega)).trans YW6
                  have BW7 := ((BW6.setCell (p := ⟨gx, 0, none⟩) lgx (.int .i64 ty)).setCell (p := ⟨gx, 1, none⟩) lgx (.int .i64 fr)).setCell (p := ⟨gx, 2, none⟩) lgx (.int .i64 tt)
                  go_simp
                  refine hK.out _ _ (HM.out _ BW7) (fun _ => ?_)
                  clear hK K
                  try simp only [Act.put, List.setIfInBounds_toArray, List.set_cons_zero, List.set_cons_succ]
                  clear s0 s1 s2 f0 f1 f2
                  generalize ((W6.setCell ⟨gx, 0, none⟩ (.int .i64 ty)).setCell ⟨gx, 1, none⟩ (.int .i64 fr)).setCell ⟨gx, 2, none⟩ (.int .i64 tt) = W7 at *
                  refine wpAnyH_ready (rs := [17]) (by kernel_rfl) (by simp) ?_
                  refine (AllReadyH.cons (oper_at (r := _) rfl) (fun K hK => ?_) AllReadyH.nil)
                  · skip
                    obtain ⟨s0, s1, s2⟩ := cell3 YW7
                    have f0 : W7.frozen? ⟨gy, 0, none⟩ = false := frozen_of_row _ _ _ _ _ YW7
                    have f1 : W7.frozen? ⟨gy, 1, none⟩ = false := frozen_of_row _ _ _ _ _ YW7
                    have f2 : W7.frozen? ⟨gy, 2, none⟩ = false := frozen_of_row _ _ _ _ _ YW7
                    have YW8 := set3R (x := .int .i64 ty2) (y := .int .i64 fr2) (z := .int .i64 tt2) YW7
                    have XW8 := (set3_other (W := W7) (g := gy) (k := gx) (.int .i64 ty2) (.int .i64 fr2) (.int .i64 tt2) (by omega)).trans XW7
                    have BW8 := ((BW7.setCell (p := ⟨gy, 0, none⟩) lgy (.int .i64 ty2)).setCell (p := ⟨gy, 1, none⟩) lgy (.int .i64 fr2)).setCell (p := ⟨gy, 2, none⟩) lgy (.int .i64 tt2)
                    go_simp
                    refine hK.out _ _ (HM.out _ BW8) (fun _ => ?_)
                    clear hK K
                    try simp only [Act.put, List.setIfInBounds_toArray, List.set_cons_zero, List.set_cons_succ]
                    clear s0 s1 s2 f0 f1 f2
                    generalize ((W7.setCell ⟨gy, 0, none⟩ (.int .i64 ty2)).setCell ⟨gy, 1, none⟩ (.int .i64 fr2)).setCell ⟨gy, 2, none⟩ (.int .i64 tt2) = W8 at *
                    refine wpAnyH_done (by kernel_rfl) ?_ _
                    refine NoPanic.normal ?_
                    go_wp2_with fail
                    go_meet
                    exact ⟨gx, gy, rfl, rfl, XW8, YW8, HVX.out.up BW8⟩
          case rest =>
            obtain ⟨gx, gy, rfl, rfl, hX, hY, hV⟩ := hcut
            have HV5 := Lib.hid hV
            have hp := hV.cells
            have hbel2 := hV.2.2.2.1
            rw [HB0.out] at hp
            obtain ⟨p1, p2, p3, p4, p5, p6⟩ := hp
            obtain ⟨x0, x1, x2⟩ := cell3 hX
            obtain ⟨y0, y1, y2⟩ := cell3 hY
            have HM2 : Hid (a.es.length - ((k : Int) + 1).toNat < a.es.length - ((k : Int)).toNat) := Lib.hid (by omega)
            by_cases he : ty = ty2
            case neg =>
              have hf : f k = 13 := by rw [HFK.out, if_neg (by rw [HI.out]; simp), if_pos he]
              have HRR := Lib.hid (show R = 13 by rw [HRK.out, HHIT.out k HLA.out (by omega), hf])
              have t : (ty != ty2) = true := bne_iff_ne.2 he
              clear hf he hbel hbel2 hX hY hV
              go_wp2_with fail
              go_ret
              exact ⟨ret_int (by rw [HRR.out]; rfl), HV5.out.2.2.2.1⟩
            subst he
            obtain ⟨F, hF⟩ : ∃ F : Nat, fr = (F : Int) := ⟨fr.toNat, by have := HVK.out; omega⟩
            obtain ⟨T, hT⟩ : ∃ T : Nat, tt = (T : Int) := ⟨tt.toNat, by have := HVK.out; omega⟩
            subst hF hT
            have hFl : F < m.ns.length := by have := HVK.out; have := HL1.out; omega
            have hTl : T < m.ns.length := by have := HVK.out; have := HL1.out; omega
            obtain ⟨g4, o4, rfl, hg4, hc4⟩ := Ints.cells (HM0.out.below hbel2) hFl
            have m1 := hc4 F hFl
            have m2 := hc4 T hTl
            rw [Int.toNat_natCast, Int.toNat_natCast] at HFK
            have F0 : (0 : Int) ≤ (F : Int) := by omega
            have F1 : (F : Int) < (m.ns.length : Int) := by omega
            have F2 : ((F : Int)).toNat = F := by omega
            have T0 : (0 : Int) ≤ (T : Int) := by omega
            have T1 : (T : Int) < (m.ns.length : Int) := by omega
            have T2 : ((T : Int)).toNat = T := by omega
            have t : (ty != ty) = false := bne_self_eq_false _
            generalize m.ns.getD F 0 = z1 at *
            generalize m.ns.getD T 0 = z2 at *
            by_cases h5 : z1 = fr2
            · by_cases h6 : z2 = tt2
              · have hf : f k = 0 := by rw [HFK.out, if_neg (by rw [HI.out]; simp), if_neg (fun h => h rfl), if_neg (fun h => h.elim (fun h => h h5) (fun h => h h6))]
                have HE := Lib.hid (show R = fstN f (k + 1) (a.es.length - (k + 1)) by rw [HRK.out, HPASS.out k HLA.out hf])
                have t5 : (z1 != fr2) = false := by rw [h5]; exact bne_self_eq_false _
                have t6 : (z2 != tt2) = false := by rw [h6]; exact bne_self_eq_false _
                clear hf h5 h6 hbel hbel2 hX hY hV hc4
                go_wp2_with fail
                go_quiet (fail)
                go_wp2_with fail
                go_roundw
                case rel => exact ⟨k + 1, HLA.out, by go_num, HE.out, HV5.out.up (below_draws (Below.refl _ _) _)⟩
                case measure => exact HM2.out
              · have hf : f k = 11 := by rw [HFK.out, if_neg (by rw [HI.out]; simp), if_neg (fun h => h rfl), if_pos (.inr h6)]
                have HRR := Lib.hid (show R = 11 by rw [HRK.out, HHIT.out k HLA.out (by omega), hf])
                have t5 : (z1 != fr2) = false := by rw [h5]; exact bne_self_eq_false _
                have t6 : (z2 != tt2) = true := bne_iff_ne.2 h6
                clear hf h5 h6 hbel hbel2 hX hY hV hc4
                go_wp2_with fail
                go_quiet (fail)
                go_wp2_with fail
                go_ret
                exact ⟨ret_int (by rw [HRR.out]; rfl), below_draws HV5.out.2.2.2.1 _⟩
            · have hf : f k = 11 := by rw [HFK.out, if_neg (by rw [HI.out]; simp), if_neg (fun h => h rfl), if_pos (.inl h5)]
              have HRR := Lib.hid (show R = 11 by rw [HRK.out, HHIT.out k HLA.out (by omega), hf])
              have t5 : (z1 != fr2) = true := bne_iff_ne.2 h5
              clear hf h5 hbel hbel2 hX hY hV hc4
              go_wp2_with fail
              go_quiet (fail)
              go_wp2_with fail
              go_ret
              exact ⟨ret_int (by rw [HRR.out]; rfl), below_draws HV5.out.2.2.2.1 _⟩
        · obtain rfl : k = a.es.length := by omega
          have HRR := Lib.hid (show R = 0 by rw [HRK.out]; exact HEND.out _ (Nat.le_refl _))
          clear hbel
          go_wp2_with fail
          go_ret
          exact ⟨ret_int (by rw [HRR.out]; rfl), HV.out.2.2.2.1⟩

end Go.Proofs.YthnhacncnhknnaaDoor

/-
  Few, Same, SameAll, Of, Then, Identity, Compose, Injective, Surjective, Inverse of the reference. Printed by mkrops.py.
-/
namespace Go.Proofs.YthnhacncnhknnaaDoor
open Go.RowKit Go.Shelf

def fewM (m : Mo) (n : Nat) : Bool := decide (m.ns.length + m.es.length ≤ n)
set_option maxHeartbeats 1000000 in
theorem fewM_any (m : Mo) (n : Nat) (Mn : Option Addr) (mn : Nat) (Me : Option Addr) (me : Nat) (w : World) (h1 : m.ns.length ≤ 1152921504606846976) (h2 : m.es.length ≤ 1152921504606846976) :
    Calls Tryd.prog 56 #[gval Mn m.ns.length mn Me m.es.length me, .int .i64 (n : Int)] w fun e w' => e = .returned (.bool (fewM m n)) ∧ Below w.heap.size w w' := by
  have HW : Hid (decide ((m.ns.length : Int) + (m.es.length : Int) ≤ (n : Int)) = fewM m n) := by
    unfold fewM
    exact Lib.hid (by by_cases h : m.ns.length + m.es.length ≤ n
                      · rw [decide_eq_true h]; exact decide_eq_true (by omega)
                      · rw [decide_eq_false h]; exact decide_eq_false (by omega))
  generalize fewM m n = R at *
  go_enter Tryd.func56, Tryd.ntmps56
  go_wp2_with fail
  go_ret
  exact ⟨ret_bool HW.out, (Below.refl _ _).alloc (Nat.le_refl _) _⟩

set_option maxRecDepth 100000 in
set_option maxHeartbeats 4000000 in
theorem thenR_any (m n : Mo) (Mn : Option Addr) (mn : Nat) (Me : Option Addr) (me : Nat) (Nn : Option Addr) (nn : Nat) (Ne : Option Addr) (ne : Nat) (w : World) (hm1 : Ints w w.heap.size Mn m.ns) (hm2 : Ints w w.heap.size Me m.es) (lm1 : m.ns.length ≤ 1000) (lm2 : m.es.length ≤ 1000) (hn1 : Ints w w.heap.size Nn n.ns) (hn2 : Ints w w.heap.size Ne n.es) (hr1 : ∀ x ∈ m.ns, 0 ≤ x ∧ x < n.ns.length) (hr2 : ∀ x ∈ m.es, 0 ≤ x ∧ x < n.es.length) :
    Calls Tryd.prog 63 #[gval Mn m.ns.length mn Me m.es.length me, gval Nn n.ns.length nn Ne n.es.length ne] w fun e w' => (∃ v u, e = .returned (.agg #[v, u]) ∧ OwnI w' w.heap.size v (thr m.ns n.ns) ∧ OwnI w' w.heap.size u (thr m.es n.es)) ∧ Below w.heap.size w w' := by
  have hS0 : SR w _ (((w.alloc (.cells #[.slice Mn m.ns.length mn, .slice Me m.es.length me] 42)).alloc (.cells #[.slice Nn n.ns.length nn, .slice Ne n.es.length ne] 42)).alloc (.cells #[.slice none 0 0, .slice none 0 0] 42)) := SR.push (SR.push (SR.push (SR.nil w) rfl _ _ _) (by simp) _ _ _) (by simp) _ _ _
  have HN1 := Lib.hid (fun u (hu : Below w.heap.size w u) => through_any m.ns n.ns Mn Nn mn nn u lm1 hr1 (Reads.up hm1 hu) (Reads.up hn1 hu))
  have HN2 := Lib.hid (fun u (hu : Below w.heap.size w u) => through_any m.es n.es Me Ne me ne u lm2 hr2 (Reads.up hm2 hu) (Reads.up hn2 hu))
  clear hm1 hm2 hn1 hn2 hr1 hr2
  generalize thr m.ns n.ns = L1 at *
  generalize thr m.es n.es = L2 at *
  go_enter Tryd.func63, Tryd.ntmps63
  go_wp2_with fail
  generalize hw1 : (((w.alloc (.cells #[.slice Mn m.ns.length mn, .slice Me m.es.length me] 42)).alloc (.cells #[.slice Nn n.ns.length nn, .slice Ne n.es.length ne] 42)).alloc (.cells #[.slice none 0 0, .slice none 0 0] 42)) = w1 at *
  clear hw1
  have HS := Lib.hid hS0
  have HWS : Hid (w.heap.size ≤ w1.drew.heap.size) := Lib.hid hS0.1.size
  clear hS0
  obtain ⟨c0x, c0y⟩ := HS.out.cell (i := 0) rfl
  obtain ⟨c1x, c1y⟩ := HS.out.cell (i := 1) rfl
  obtain ⟨c2x, c2y⟩ := HS.out.cell (i := 2) rfl
  simp only [Nat.add_zero] at c0x c0y
  have fr0 := HS.out.free (i := 2) rfl 0
  have fr1 := HS.out.free (i := 2) rfl 1
  have HSd : Hid (SR w _ w1.drew) := Lib.hid (HS.out.up (below_d _))
  have HS1 : Hid ((fun u : World => u.cell? ⟨w.heap.size, 0, none⟩ = some (.slice Mn m.ns.length mn) ∧ u.cell? ⟨w.heap.size, 1, none⟩ = some (.slice Me m.es.length me) ∧ u.cell? ⟨w.heap.size + 1, 0, none⟩ = some (.slice Nn n.ns.length nn) ∧ u.cell? ⟨w.heap.size + 1, 1, none⟩ = some (.slice Ne n.es.length ne)) w1.drew) := Lib.hid ⟨c0x, c0y, c1x, c1y⟩
  have HUP : Hid (∀ u u', (fun u : World => u.cell? ⟨w.heap.size, 0, none⟩ = some (.slice Mn m.ns.length mn) ∧ u.cell? ⟨w.heap.size, 1, none⟩ = some (.slice Me m.es.length me) ∧ u.cell? ⟨w.heap.size + 1, 0, none⟩ = some (.slice Nn n.ns.length nn) ∧ u.cell? ⟨w.heap.size + 1, 1, none⟩ = some (.slice Ne n.es.length ne)) u → Below u.heap.size u u' → (fun u : World => u.cell? ⟨w.heap.size, 0, none⟩ = some (.slice Mn m.ns.length mn) ∧ u.cell? ⟨w.heap.size, 1, none⟩ = some (.slice Me m.es.length me) ∧ u.cell? ⟨w.heap.size + 1, 0, none⟩ = some (.slice Nn n.ns.length nn) ∧ u.cell? ⟨w.heap.size + 1, 1, none⟩ = some (.slice Ne n.es.length ne)) u') := Lib.hid fun u u' h hb => ⟨cell_up hb (h.1), cell_up hb (h.2.1), cell_up hb (h.2.2.1), cell_up hb (h.2.2.2)⟩
  clear c0x c0y c1x c1y c2x c2y fr0 fr1
  refine wp_region_noPanic ?_
  refine wp_region_held_drew (S := (fun u : World => u.cell? ⟨w.heap.size, 0, none⟩ = some (.slice Mn m.ns.length mn) ∧ u.cell? ⟨w.heap.size, 1, none⟩ = some (.slice Me m.es.length me) ∧ u.cell? ⟨w.heap.size + 1, 0, none⟩ = some (.slice Nn n.ns.length nn) ∧ u.cell? ⟨w.heap.size + 1, 1, none⟩ = some (.slice Ne n.es.length ne))) (by kernel_rfl) (HS1.out) (fun hHeld => ?_)
  refine wpAnyH_take (i := 0) (v := ?_) (oper_at (r := _) rfl) (by kernel_rfl) (by kernel_rfl) (by kernel_rfl) (fun _ _ _ h => h) (Or.inl ⟨by rfl, ?_⟩) (by assumption) ?_
  rotate_left
  · intro w hSw; try dsimp only at hSw
    go_simp
    try with_reducible rfl
  try simp only [Act.put, List.setIfInBounds_toArray, List.set_cons_zero, List.set_cons_succ]
  refine wpAnyH_take (i := 1) (v := ?_) (oper_at (r := _) rfl) (by kernel_rfl) (by kernel_rfl) (by kernel_rfl) (fun _ _ _ h => h) (Or.inl ⟨by rfl, ?_⟩) (by assumption) ?_
  rotate_left
  · intro w hSw; try dsimp only at hSw
    go_simp
    try with_reducible rfl
  try simp only [Act.put, List.setIfInBounds_toArray, List.set_cons_zero, List.set_cons_succ]
  refine wpAnyH_take (i := 2) (v := ?_) (oper_at (r := _) rfl) (by kernel_rfl) (by kernel_rfl) (by kernel_rfl) (fun _ _ _ h => h) (Or.inl ⟨by rfl, ?_⟩) (by assumption) ?_
  rotate_left
  · intro w hSw; try dsimp only at hSw
    go_simp
    try with_reducible rfl
  try simp only [Act.put, List.setIfInBounds_toArray, List.set_cons_zero, List.set_cons_succ]
  refine wpAnyH_take (i := 3) (v := ?_) (oper_at (r := _) rfl) (by kernel_rfl) (by kernel_rfl) (by kernel_rfl) (fun _ _ _ h => h) (Or.inl ⟨by rfl, ?_⟩) (by assumption) ?_
  rotate_left
  · intro w hSw; try dsimp only at hSw
    go_simp
    try with_reducible rfl
  try simp only [Act.put, List.setIfInBounds_toArray, List.set_cons_zero, List.set_cons_succ]
  refine wpAnyH_take (i := 5) (v := ?_) (oper_at (r := _) rfl) (by kernel_rfl) (by kernel_rfl) (by kernel_rfl) (fun _ _ _ h => h) (Or.inl ⟨by rfl, ?_⟩) (by assumption) ?_
  rotate_left
  · intro w hSw; try dsimp only at hSw
    go_simp
    try with_reducible rfl
  try simp only [Act.put, List.setIfInBounds_toArray, List.set_cons_zero, List.set_cons_succ]
  refine wpAnyH_take (i := 6) (v := ?_) (oper_at (r := _) rfl) (by kernel_rfl) (by kernel_rfl) (by kernel_rfl) (fun _ _ _ h => h) (Or.inl ⟨by rfl, ?_⟩) (by assumption) ?_
  rotate_left
  · intro w hSw; try dsimp only at hSw
    go_simp
    try with_reducible rfl
  try simp only [Act.put, List.setIfInBounds_toArray, List.set_cons_zero, List.set_cons_succ]
  refine wpAnyH_take (i := 7) (v := ?_) (oper_at (r := _) rfl) (by kernel_rfl) (by kernel_rfl) (by kernel_rfl) (fun _ _ _ h => h) (Or.inl ⟨by rfl, ?_⟩) (by assumption) ?_
  rotate_left
  · intro w hSw; try dsimp only at hSw
    go_simp
    try with_reducible rfl
  try simp only [Act.put, List.setIfInBounds_toArray, List.set_cons_zero, List.set_cons_succ]
  refine wpAnyH_take (i := 8) (v := ?_) (oper_at (r := _) rfl) (by kernel_rfl) (by kernel_rfl) (by kernel_rfl) (fun _ _ _ h => h) (Or.inl ⟨by rfl, ?_⟩) (by assumption) ?_
  rotate_left
  · intro w hSw; try dsimp only at hSw
    go_simp
    try with_reducible rfl
  try simp only [Act.put, List.setIfInBounds_toArray, List.set_cons_zero, List.set_cons_succ]
  refine wpAnyH_ready (rs := [4]) (by kernel_rfl) (by simp) ?_
  refine AllReadyH.cons (oper_at (r := _) rfl) (fun K hK => ?_) AllReadyH.nil
  go_simp
  refine (HN1.out _ HSd.out.1).mono ?_
  rintro e w2 ⟨v2, rfl, ho2, hb2⟩
  have HS2 := Lib.hid (HUP.out _ _ HS1.out hb2)
  have HLE := Lib.hid hb2.size
  have HSR2 := Lib.hid (HSd.out.up hb2)
  have HO2 := Lib.hid ho2
  obtain ⟨A2, d2, rfl⟩ := OwnE.slice ho2
  clear ho2 hb2
  go_wp2_with fail
  refine hK.out _ _ (HS2.out) (fun _ => ?_)
  clear hK K
  try simp only [Act.put, List.setIfInBounds_toArray, List.set_cons_zero, List.set_cons_succ]
  refine wpAnyH_ready (rs := [9]) (by kernel_rfl) (by simp) ?_
  refine AllReadyH.cons (oper_at (r := _) rfl) (fun K hK => ?_) AllReadyH.nil
  go_simp
  refine (HN2.out _ HSR2.out.1).mono ?_
  rintro e w3 ⟨v3, rfl, ho3, hb3⟩
  have HS3 := Lib.hid (HUP.out _ _ HS2.out hb3)
  have HSR3 := Lib.hid (HSR2.out.up hb3)
  have HOO := Lib.hid (OwnE.below HO2.out hb3 (Nat.le_refl _))
  have HO3 := Lib.hid ho3
  obtain ⟨A3, d3, rfl⟩ := OwnE.slice ho3
  clear ho3 hb3 HO2
  go_wp2_with fail
  refine hK.out _ _ (HS3.out) (fun _ => ?_)
  clear hK K
  try simp only [Act.put, List.setIfInBounds_toArray, List.set_cons_zero, List.set_cons_succ]
  refine wpAnyH_take (i := 10) (v := ?_) (oper_at (r := _) rfl) (by kernel_rfl) (by kernel_rfl) (by kernel_rfl) (fun _ _ _ h => h) (Or.inl ⟨by rfl, ?_⟩) (by assumption) ?_
  rotate_left
  · intro w hSw; try dsimp only at hSw
    go_simp
    try with_reducible rfl
  try simp only [Act.put, List.setIfInBounds_toArray, List.set_cons_zero, List.set_cons_succ]
  obtain ⟨c2x, c2y⟩ := HSR3.out.cell (i := 2) rfl
  have fr0 := HSR3.out.free (i := 2) rfl 0
  have fr1 := HSR3.out.free (i := 2) rfl 1
  have HSZ := Lib.hid (HSR3.out.set (i := 2) rfl (.slice A2 L1.length d2) (.slice A3 L2.length d3))
  obtain ⟨z0x, z0y⟩ := HSZ.out.cell (i := 0) rfl
  obtain ⟨z1x, z1y⟩ := HSZ.out.cell (i := 1) rfl
  simp only [Nat.add_zero] at z0x z0y
  have HS4 : Hid ((fun u : World => u.cell? ⟨w.heap.size, 0, none⟩ = some (.slice Mn m.ns.length mn) ∧ u.cell? ⟨w.heap.size, 1, none⟩ = some (.slice Me m.es.length me) ∧ u.cell? ⟨w.heap.size + 1, 0, none⟩ = some (.slice Nn n.ns.length nn) ∧ u.cell? ⟨w.heap.size + 1, 1, none⟩ = some (.slice Ne n.es.length ne)) _) := Lib.hid ⟨z0x, z0y, z1x, z1y⟩
  clear z0x z0y z1x z1y
  refine wpAnyH_ready (rs := [11]) (by kernel_rfl) (by simp) ?_
  refine AllReadyH.cons (oper_at (r := _) rfl) (fun K hK => ?_) AllReadyH.nil
  go_simp
  refine hK.out _ _ (HS4.out) (fun _ => ?_)
  clear hK K
  try simp only [Act.put, List.setIfInBounds_toArray, List.set_cons_zero, List.set_cons_succ]
  refine wpAnyH_done (by kernel_rfl) ?_ _
  refine NoPanic.normal ?_
  go_wp2_with fail
  obtain ⟨r0, r1⟩ := HSZ.out.cell (i := 2) rfl
  have hlt : w.heap.size + 2 < w1.heap.size := heap_lt (HS.out.2 2 _ rfl)
  have hsd := HSR2.out.1.size
  have hle : w1.drew.heap.size ≤ w2.heap.size := HLE.out
  refine bodyPost_ret (v := .agg #[.slice A2 L1.length d2, .slice A3 L2.length d3]) (by simp [results, Tryd.results63, go_sem, r0, r1]) rfl ?_
  have s1 : OwnI ((w3.setCell ⟨w.heap.size + 2, 0, none⟩ (.slice A2 L1.length d2)).setCell ⟨w.heap.size + 2, 1, none⟩ (.slice A3 L2.length d3)) _ _ _ := ownsRow_setCell_below (ownsRow_setCell_below HOO.out (by show w.heap.size + 2 < w1.heap.size; exact hlt) _) (by show w.heap.size + 2 < w1.heap.size; exact hlt) _
  have s2 : OwnI ((w3.setCell ⟨w.heap.size + 2, 0, none⟩ (.slice A2 L1.length d2)).setCell ⟨w.heap.size + 2, 1, none⟩ (.slice A3 L2.length d3)) _ _ _ := ownsRow_setCell_below (ownsRow_setCell_below HO3.out (by show w.heap.size + 2 < w2.heap.size; exact Nat.lt_of_lt_of_le hlt hle) _) (by show w.heap.size + 2 < w2.heap.size; exact Nat.lt_of_lt_of_le hlt hle) _
  exact ⟨⟨_, _, rfl, s1.mono HWS.out, s2.mono (Nat.le_trans HWS.out hle)⟩, HSZ.out.1⟩

set_option maxRecDepth 100000 in
set_option maxHeartbeats 4000000 in
theorem composeR_any (a b c : Gr) (m n : Mo) (An : Option Addr) (cn : Nat) (Ae : Option Addr) (ce : Nat) (Bn : Option Addr) (dn : Nat) (Be : Option Addr) (de : Nat) (Cn : Option Addr) (kn : Nat) (Ce : Option Addr) (ke : Nat) (Mn : Option Addr) (mn : Nat) (Me : Option Addr) (me : Nat) (Nn : Option Addr) (nn : Nat) (Ne : Option Addr) (ne : Nat) (w : World) (hTa : GrAt w An cn Ae ce a) (hTb : GrAt w Bn dn Be de b) (hTc : GrAt w Cn kn Ce ke c) (hm1 : Ints w w.heap.size Mn m.ns) (hm2 : Ints w w.heap.size Me m.es) (lm1 : m.ns.length ≤ 1000) (lm2 : m.es.length ≤ 1000) (hn1 : Ints w w.heap.size Nn n.ns) (hn2 : Ints w w.heap.size Ne n.es) (ln1 : n.ns.length ≤ 1000) (ln2 : n.es.length ≤ 1000) :
    Calls Tryd.prog 32 #[gval An a.ns.length cn Ae a.es.length ce, gval Bn b.ns.length dn Be b.es.length de, gval Cn c.ns.length kn Ce c.es.length ke, gval Mn m.ns.length mn Me m.es.length me, gval Nn n.ns.length nn Ne n.es.length ne] w fun e w' => (∃ v, e = .returned (.tuple #[v, .int .i64 (cmpE a b c m n : Int)]) ∧ IsM w' v (cmpR a b c m n)) ∧ Below w.heap.size w w' := by
  have hS0 : SR w _ ((((((w.alloc (.cells #[.slice An a.ns.length cn, .slice Ae a.es.length ce] 25)).alloc (.cells #[.slice Bn b.ns.length dn, .slice Be b.es.length de] 25)).alloc (.cells #[.slice Cn c.ns.length kn, .slice Ce c.es.length ke] 25)).alloc (.cells #[.slice Mn m.ns.length mn, .slice Me m.es.length me] 42)).alloc (.cells #[.slice Nn n.ns.length nn, .slice Ne n.es.length ne] 42)).alloc (.cells #[.slice none 0 0, .slice none 0 0] 42)) := SR.push (SR.push (SR.push (SR.push (SR.push (SR.push (SR.nil w) rfl _ _ _) (by simp) _ _ _) (by simp) _ _ _) (by simp) _ _ _) (by simp) _ _ _) (by simp) _ _ _
  have HV := Lib.hid (validR6_any a b m An cn Ae ce Bn dn Be de Mn mn Me me _ (hTa.up hS0.1) (hTb.up hS0.1) (Reads.up hm1 hS0.1) (Reads.up hm2 hS0.1) lm1 lm2)
  have HV2 := Lib.hid (fun (u : World) (hu : Below w.heap.size w u) => validR6_any b c n Bn dn Be de Cn kn Ce ke Nn nn Ne ne u (hTb.up hu) (hTc.up hu) (Reads.up hn1 hu) (Reads.up hn2 hu) ln1 ln2)
  have HZ := Lib.hid (fun h => mor_zero (a := a) (b := b) (m := m).1 h)
  have HZ2 := Lib.hid (fun h => mor_zero (a := b) (b := c) (m := n).1 h)
  have HE : Hid (cmpE a b c m n = if morE a b m ≠ 0 then morE a b m else morE b c n) := Lib.hid rfl
  have HI : Hid (cmpR a b c m n = if cmpE a b c m n = 0 then compM m n else noM) := Lib.hid rfl
  have HS0 := Lib.hid hS0
  have HTH := Lib.hid (fun (h1 : ∀ x ∈ m.ns, 0 ≤ x ∧ x < n.ns.length) (h2 : ∀ x ∈ m.es, 0 ≤ x ∧ x < n.es.length) (u : World) (hu : Below w.heap.size w u) => thenR_any m n Mn mn Me me Nn nn Ne ne u (Reads.up hm1 hu) (Reads.up hm2 hu) lm1 lm2 (Reads.up hn1 hu) (Reads.up hn2 hu) h1 h2)
  clear hTa hTb hTc hm1 hm2 hn1 hn2 hS0
  generalize cmpR a b c m n = R at HI ⊢
  generalize cmpE a b c m n = E at *
  generalize morE a b m = z at *
  generalize morE b c n = z2 at *
  go_enter Tryd.func32, Tryd.ntmps32
  go_wp2_with fail
  refine HV.out.mono ?_
  rintro e w0 ⟨rfl, hb1⟩
  have HS := Lib.hid (HS0.out.up hb1)
  clear hb1 HS0 HV
  obtain ⟨c0x, c0y⟩ := HS.out.cell (i := 0) rfl
  obtain ⟨c1x, c1y⟩ := HS.out.cell (i := 1) rfl
  obtain ⟨c2x, c2y⟩ := HS.out.cell (i := 2) rfl
  obtain ⟨c3x, c3y⟩ := HS.out.cell (i := 3) rfl
  obtain ⟨c4x, c4y⟩ := HS.out.cell (i := 4) rfl
  obtain ⟨c5x, c5y⟩ := HS.out.cell (i := 5) rfl
  simp only [Nat.add_zero] at c0x c0y
  have fr0 := HS.out.free (i := 5) rfl 0
  have fr1 := HS.out.free (i := 5) rfl 1
  by_cases hz : z = 0
  case neg =>
    have t1 : ((z : Int) != 0) = true := by simp; omega
    have hE : E = z := by rw [HE.out, if_pos hz]
    have HEE := Lib.hid hE
    have HR := Lib.hid (show R = noM by rw [HI.out, if_neg (by rw [hE]; exact hz)])
    clear hz hE
    go_wp2_with fail
    have hS2 := HS.out.set (i := 5) rfl (.slice none 0 0) (.slice none 0 0)
    obtain ⟨r0, r1⟩ := hS2.cell (i := 5) rfl
    refine bodyPost_ret (v := .tuple #[gval none 0 0 none 0 0, .int .i64 ((z : Nat))]) (by simp [results, Tryd.results32, go_sem, r0, r1]) rfl ?_
    exact ⟨⟨_, by rw [HEE.out], by rw [HR.out]; exact isM_nil _⟩, hS2.1⟩
  subst hz
  have HK1 := Lib.hid (HZ.out rfl)
  clear HZ
  have HEE := Lib.hid (show E = z2 by rw [HE.out, if_neg (fun h => h rfl)])
  clear c0x c0y c1x c1y c2x c2y c3x c3y c4x c4y c5x c5y fr0 fr1
  obtain ⟨c0x, c0y⟩ := HS.out.cell (i := 0) rfl
  obtain ⟨c1x, c1y⟩ := HS.out.cell (i := 1) rfl
  obtain ⟨c2x, c2y⟩ := HS.out.cell (i := 2) rfl
  obtain ⟨c3x, c3y⟩ := HS.out.cell (i := 3) rfl
  obtain ⟨c4x, c4y⟩ := HS.out.cell (i := 4) rfl
  obtain ⟨c5x, c5y⟩ := HS.out.cell (i := 5) rfl
  simp only [Nat.add_zero] at c0x c0y
  go_wp2_with fail
  refine (HV2.out _ HS.out.1).mono ?_
  rintro e w1 ⟨rfl, hb1⟩
  clear c0x c0y c1x c1y c2x c2y c3x c3y c4x c4y c5x c5y
  have HS := Lib.hid (HS.out.up hb1)
  clear hb1 HV2
  obtain ⟨c0x, c0y⟩ := HS.out.cell (i := 0) rfl
  obtain ⟨c1x, c1y⟩ := HS.out.cell (i := 1) rfl
  obtain ⟨c2x, c2y⟩ := HS.out.cell (i := 2) rfl
  obtain ⟨c3x, c3y⟩ := HS.out.cell (i := 3) rfl
  obtain ⟨c4x, c4y⟩ := HS.out.cell (i := 4) rfl
  obtain ⟨c5x, c5y⟩ := HS.out.cell (i := 5) rfl
  simp only [Nat.add_zero] at c0x c0y
  have fr0 := HS.out.free (i := 5) rfl 0
  have fr1 := HS.out.free (i := 5) rfl 1
  by_cases hz : z2 = 0
  case neg =>
    have t1 : ((z2 : Int) != 0) = true := by simp; omega
    have HR := Lib.hid (show R = noM by rw [HI.out, if_neg (by rw [HEE.out]; exact hz)])
    clear hz
    go_wp2_with fail
    have hS2 := HS.out.set (i := 5) rfl (.slice none 0 0) (.slice none 0 0)
    obtain ⟨r0, r1⟩ := hS2.cell (i := 5) rfl
    refine bodyPost_ret (v := .tuple #[gval none 0 0 none 0 0, .int .i64 ((z2 : Nat))]) (by simp [results, Tryd.results32, go_sem, r0, r1]) rfl ?_
    exact ⟨⟨_, by rw [HEE.out], by rw [HR.out]; exact isM_nil _⟩, hS2.1⟩
  subst hz
  have k1 := HK1.out
  have k2 := HZ2.out rfl
  have HR : Hid (R = ⟨thr m.ns n.ns, thr m.es n.es⟩) := Lib.hid (by rw [HI.out, if_pos HEE.out]; rfl)
  have HOO := Lib.hid (HTH.out (fun x hx => by rw [k2.ln]; exact k1.rn x hx) (fun x hx => by rw [k2.le]; exact k1.re x hx))
  generalize thr m.ns n.ns = L1 at *
  generalize thr m.es n.es = L2 at *
  clear HK1 HZ2 HI HE k1 k2 HTH c5x c5y fr0 fr1
  go_wp2_with fail
  refine (HOO.out _ HS.out.1).mono ?_
  rintro e w9 ⟨⟨x, y, rfl, o1, o2⟩, hb9⟩
  have HS9 := Lib.hid (HS.out.up hb9)
  have HLT : Hid (w.heap.size + 5 < w1.heap.size) := Lib.hid (heap_lt (HS.out.2 5 _ rfl))
  have HO1 := Lib.hid o1
  have HO2 := Lib.hid o2
  obtain ⟨a1, d1, rfl⟩ := OwnE.slice o1
  obtain ⟨a2, d2, rfl⟩ := OwnE.slice o2
  clear o1 o2 hb9
  obtain ⟨q0, q1⟩ := HS9.out.cell (i := 5) rfl
  have fr0 := HS9.out.free (i := 5) rfl 0
  have fr1 := HS9.out.free (i := 5) rfl 1
  go_wp2_with fail
  have HSZ := Lib.hid (HS9.out.set (i := 5) rfl (.slice a1 L1.length d1) (.slice a2 L2.length d2))
  obtain ⟨r0, r1⟩ := HSZ.out.cell (i := 5) rfl
  have hlt := HLT.out
  refine bodyPost_ret (v := .tuple #[.agg #[.slice a1 L1.length d1, .slice a2 L2.length d2], .int .i64 0]) (by simp [results, Tryd.results32, go_sem, r0, r1]) rfl ?_
  have s1 : OwnI ((w9.setCell ⟨w.heap.size + 5, 0, none⟩ (.slice a1 L1.length d1)).setCell ⟨w.heap.size + 5, 1, none⟩ (.slice a2 L2.length d2)) _ _ _ := ownsRow_setCell_below (ownsRow_setCell_below HO1.out hlt _) hlt _
  have s2 : OwnI ((w9.setCell ⟨w.heap.size + 5, 0, none⟩ (.slice a1 L1.length d1)).setCell ⟨w.heap.size + 5, 1, none⟩ (.slice a2 L2.length d2)) _ _ _ := ownsRow_setCell_below (ownsRow_setCell_below HO2.out hlt _) hlt _
  exact ⟨⟨_, (by rw [HEE.out]; rfl), by rw [HR.out]; exact isM_of (g := ⟨L1, L2⟩) (isI_own s1) (isI_own s2)⟩, HSZ.out.1⟩

theorem injB_nod (a b : Gr) (m : Mo) : injB a b m = if morE a b m = 0 then (nodB m.ns && nodB m.es) else false := by
  by_cases h : morE a b m = 0
  · rw [if_pos h, Bool.eq_iff_iff, injB_iff, Bool.and_eq_true]
    unfold InjM nodB
    rw [@decide_eq_true_iff _ (Classical.propDecidable _), @decide_eq_true_iff _ (Classical.propDecidable _)]
    exact ⟨fun h => h.2, fun k => ⟨h, k⟩⟩
  · rw [if_neg h]
    exact Bool.eq_false_iff.2 fun e => h (injB_iff.1 e).1
set_option maxRecDepth 100000 in
set_option maxHeartbeats 4000000 in
theorem injR_any (a b : Gr) (m : Mo) (An : Option Addr) (cn : Nat) (Ae : Option Addr) (ce : Nat) (Bn : Option Addr) (dn : Nat) (Be : Option Addr) (de : Nat) (Mn : Option Addr) (mn : Nat) (Me : Option Addr) (me : Nat) (w : World) (hTa : GrAt w An cn Ae ce a) (hTb : GrAt w Bn dn Be de b) (hm1 : Ints w w.heap.size Mn m.ns) (hm2 : Ints w w.heap.size Me m.es) (lm1 : m.ns.length ≤ 1000) (lm2 : m.es.length ≤ 1000) :
    Calls Tryd.prog 34 #[gval An a.ns.length cn Ae a.es.length ce, gval Bn b.ns.length dn Be b.es.length de, gval Mn m.ns.length mn Me m.es.length me] w fun e w' => e = .returned (.bool (injB a b m)) ∧ Below w.heap.size w w' := by
  have hS0 : SR w _ (((w.alloc (.cells #[.slice An a.ns.length cn, .slice Ae a.es.length ce] 25)).alloc (.cells #[.slice Bn b.ns.length dn, .slice Be b.es.length de] 25)).alloc (.cells #[.slice Mn m.ns.length mn, .slice Me m.es.length me] 42)) := SR.push (SR.push (SR.push (SR.nil w) rfl _ _ _) (by simp) _ _ _) (by simp) _ _ _
  have HV := Lib.hid (validR6_any a b m An cn Ae ce Bn dn Be de Mn mn Me me _ (hTa.up hS0.1) (hTb.up hS0.1) (Reads.up hm1 hS0.1) (Reads.up hm2 hS0.1) lm1 lm2)
  have HC1 := Lib.hid (fun (u : World) (hu : Below w.heap.size w u) => distinct_any m.ns Mn mn u lm1 (Reads.up hm1 hu))
  have HC2 := Lib.hid (fun (u : World) (hu : Below w.heap.size w u) => distinct_any m.es Me me u lm2 (Reads.up hm2 hu))
  have HI := Lib.hid (injB_nod a b m)
  have HS0 := Lib.hid hS0
  clear hTa hTb hm1 hm2 hS0
  generalize injB a b m = R at HI ⊢
  generalize morE a b m = z at *
  generalize nodB m.ns = k1 at *
  generalize nodB m.es = k2 at *
  go_enter Tryd.func34, Tryd.ntmps34
  go_wp2_with fail
  refine HV.out.mono ?_
  rintro e w1 ⟨rfl, hb1⟩
  have HS := Lib.hid (HS0.out.up hb1)
  clear hb1 HS0 HV
  obtain ⟨c0x, c0y⟩ := HS.out.cell (i := 0) rfl
  obtain ⟨c1x, c1y⟩ := HS.out.cell (i := 1) rfl
  obtain ⟨c2x, c2y⟩ := HS.out.cell (i := 2) rfl
  simp only [Nat.add_zero] at c0x c0y
  by_cases hz : z = 0
  case neg =>
    have t1 : ((z : Int) == 0) = false := by simp; omega
    have HR := Lib.hid (show R = false by rw [HI.out, if_neg hz])
    clear hz
    go_wp2_with fail
    go_ret
    exact ⟨ret_bool (by rw [HR.out]), HS.out.1⟩
  subst hz
  have HX := Lib.hid (show R = (k1 && k2) by rw [HI.out, if_pos rfl])
  clear HI
  go_wp2_with fail
  refine (HC1.out _ HS.out.1).mono ?_
  rintro e w2 ⟨rfl, hb2⟩
  have HS := Lib.hid (HS.out.up hb2)
  clear hb2 c0x c0y c1x c1y c2x c2y
  obtain ⟨c0x, c0y⟩ := HS.out.cell (i := 0) rfl
  obtain ⟨c1x, c1y⟩ := HS.out.cell (i := 1) rfl
  obtain ⟨c2x, c2y⟩ := HS.out.cell (i := 2) rfl
  simp only [Nat.add_zero] at c0x c0y
  cases k1
  · go_wp2_with fail
    go_ret
    exact ⟨ret_bool (by rw [HX.out]; rfl), HS.out.1⟩
  · go_wp2_with fail
    refine (HC2.out _ HS.out.1).mono ?_
    rintro e w3 ⟨rfl, hb3⟩
    have HS := Lib.hid (HS.out.up hb3)
    clear hb3
    go_wp2_with fail
    go_ret
    exact ⟨ret_bool (by rw [HX.out]; rfl), HS.out.1⟩

end Go.Proofs.YthnhacncnhknnaaDoor

/-
  Parts of graphs as plain data (a part is a Mo: ns its nodes, es its edges): their error, the least part, union and intersection, the graph of a part, images and preimages, the boundary; what follows of it.
-/
namespace Go.Proofs.YthnhacncnhknnaaDoor

/-! the numbers below n that a test names -/
def sel (f : Nat → Bool) (n : Nat) : List Int := coll (fun i => if f i = true then [(i : Int)] else []) n
theorem sel_mem {f : Nat → Bool} {n : Nat} {x : Int} : x ∈ sel f n ↔ ∃ i : Nat, i < n ∧ f i = true ∧ x = i := by
  unfold sel
  rw [coll_mem]
  constructor
  · rintro ⟨i, hi, h⟩
    by_cases hf : f i = true
    · rw [if_pos hf] at h; exact ⟨i, hi, hf, by simpa using h⟩
    · rw [if_neg hf] at h; simp at h
  · rintro ⟨i, hi, hf, rfl⟩; exact ⟨i, hi, by rw [if_pos hf]; simp⟩
theorem sel_has {f : Nat → Bool} {n i : Nat} : (i : Int) ∈ sel f n ↔ i < n ∧ f i = true := by
  rw [sel_mem]
  constructor
  · rintro ⟨k, h1, h2, e⟩; have : i = k := by omega
    subst this; exact ⟨h1, h2⟩
  · rintro ⟨h1, h2⟩; exact ⟨i, h1, h2, rfl⟩
theorem sel_rng {f : Nat → Bool} {n : Nat} : ∀ x ∈ sel f n, 0 ≤ x ∧ x < n := fun x hx => by
  obtain ⟨i, h1, _, rfl⟩ := sel_mem.1 hx
  omega
theorem sel_succ (f : Nat → Bool) (n : Nat) : sel f (n + 1) = sel f n ++ if f n = true then [(n : Int)] else [] := rfl
theorem sel_asc (f : Nat → Bool) (n : Nat) : Asc (sel f n) := by
  induction n with
  | zero => exact List.Pairwise.nil
  | succ n ih =>
    rw [sel_succ]
    unfold Asc
    rw [List.pairwise_append]
    refine ⟨ih, ?_, fun a ha b hb => ?_⟩
    · split
      · exact List.pairwise_singleton _ _
      · exact List.Pairwise.nil
    · have := sel_rng a ha
      split at hb
      · simp at hb; omega
      · simp at hb
theorem sel_le (f : Nat → Bool) (n : Nat) : (sel f n).length ≤ n := coll_le (fun i => by split <;> simp) n
theorem sel_ext {f g : Nat → Bool} {n : Nat} (h : ∀ i, i < n → f i = g i) : sel f n = sel g n := coll_ext fun i hi => by rw [h i hi]
/-- ascending lists with the same numbers are equal -/
theorem ascI_ext {l k : List Int} (h1 : Asc l) (h2 : Asc k) (h : ∀ x, x ∈ l ↔ x ∈ k) : l = k := by
  induction l generalizing k with
  | nil =>
    cases k with
    | nil => rfl
    | cons y s => exact absurd ((h y).2 List.mem_cons_self) (by simp)
  | cons x r ih =>
    cases k with
    | nil => exact absurd ((h x).1 List.mem_cons_self) (by simp)
    | cons y s =>
      have hx := List.pairwise_cons.1 h1
      have hy := List.pairwise_cons.1 h2
      have e : x = y := by
        have a := (h x).1 List.mem_cons_self
        have b := (h y).2 List.mem_cons_self
        rcases List.mem_cons.1 a with e | a
        · exact e
        · rcases List.mem_cons.1 b with e | b
          · exact e.symm
          · have := hx.1 y b; have := hy.1 x a; omega
      subst e
      refine congrArg (x :: ·) (ih hx.2 hy.2 fun z => ?_)
      have hz := h z
      simp only [List.mem_cons] at hz
      constructor
      · intro m
        rcases hz.1 (.inr m) with e | m'
        · subst e; exact absurd (hx.1 z m) (by omega)
        · exact m'
      · intro m
        rcases hz.2 (.inr m) with e | m'
        · subst e; exact absurd (hy.1 z m) (by omega)
        · exact m'
theorem sel_self {l : List Int} {n : Nat} (h : Asc l) (hr : ∀ x ∈ l, 0 ≤ x ∧ x < n) : sel (fun i => decide ((i : Int) ∈ l)) n = l := by
  refine ascI_ext (sel_asc _ _) h fun x => ?_
  rw [sel_mem]
  constructor
  · rintro ⟨i, _, h2, rfl⟩; exact of_decide_eq_true h2
  · intro hx
    have := hr x hx
    exact ⟨x.toNat, by omega, by rw [decide_eq_true_iff, show (x.toNat : Int) = x by omega]; exact hx, by omega⟩
theorem asc_eq_sel {l : List Int} {n : Nat} {f : Nat → Bool} (h : Asc l) (hr : ∀ x ∈ l, 0 ≤ x ∧ x < n) (hf : ∀ i : Nat, i < n → ((i : Int) ∈ l ↔ f i = true)) : l = sel f n := by
  rw [← sel_self h hr]
  refine sel_ext fun i hi => ?_
  rw [Bool.eq_iff_iff, decide_eq_true_iff]
  exact hf i hi
theorem asc_step {l : List Int} (h : Asc l) : ∀ i, i + 1 < l.length → l.getD i 0 < l.getD (i + 1) 0 := fun i hi => by
  rw [List.getD_eq_getElem?_getD, List.getD_eq_getElem?_getD, List.getElem?_eq_getElem (by omega), List.getElem?_eq_getElem hi]
  exact List.pairwise_iff_getElem.1 h i (i + 1) (by omega) hi (by omega)
theorem asc_iff {l : List Int} {n : Nat} : ascE l n = 0 ↔ (∀ x ∈ l, 0 ≤ x ∧ x < n) ∧ Asc l := ⟨asc_zero, fun h => asc_mk h.1 (asc_step h.2)⟩
theorem asc_nodup {l : List Int} (h : Asc l) : l.Nodup := h.imp fun h => by omega

/-! the error of a part -/
def pdAt (g : Gr) (p : Mo) (k : Nat) : Nat := if (g.es.getD (p.es.getD k 0).toNat default).fr ∈ p.ns ∧ (g.es.getD (p.es.getD k 0).toNat default).tq ∈ p.ns then 0 else 14
def rightE (g : Gr) (p : Mo) : Nat := if ascE p.ns g.ns.length ≠ 0 then ascE p.ns g.ns.length else if ascE p.es g.es.length ≠ 0 then ascE p.es g.es.length else fstN (pdAt g p) 0 p.es.length
def partE (g : Gr) (p : Mo) : Nat := if validE g ≠ 0 then validE g else rightE g p
structure PartOk (g : Gr) (p : Mo) : Prop where
  an : Asc p.ns
  rn : ∀ x ∈ p.ns, 0 ≤ x ∧ x < g.ns.length
  ae : Asc p.es
  re : ∀ x ∈ p.es, 0 ≤ x ∧ x < g.es.length
  dn : ∀ i : Nat, (i : Int) ∈ p.es → (g.es.getD i default).fr ∈ p.ns ∧ (g.es.getD i default).tq ∈ p.ns
theorem right_zero {g : Gr} {p : Mo} : rightE g p = 0 ↔ PartOk g p := by
  unfold rightE
  constructor
  · intro h
    split at h
    · omega
    · split at h
      · omega
      · rename_i h1 h2
        obtain ⟨r1, a1⟩ := asc_zero (l := p.ns) (n := g.ns.length) (by omega)
        obtain ⟨r2, a2⟩ := asc_zero (l := p.es) (n := g.es.length) (by omega)
        refine ⟨a1, r1, a2, r2, fun i hi => ?_⟩
        obtain ⟨k, hk, e⟩ := List.mem_iff_getElem.1 hi
        have hz := fstN_zero h k (by omega) (by omega)
        unfold pdAt at hz
        rw [List.getD_eq_getElem?_getD (l := p.es), List.getElem?_eq_getElem hk, Option.getD_some, e, Int.toNat_natCast] at hz
        split at hz
        · assumption
        · omega
  · intro h
    rw [if_neg (by rw [asc_iff.2 ⟨h.rn, h.an⟩]; simp), if_neg (by rw [asc_iff.2 ⟨h.re, h.ae⟩]; simp)]
    apply fstN_all
    intro i _ hi
    have hm := getD_mem (l := p.es) (d := 0) (i := i) (by omega)
    have hr := h.re _ hm
    unfold pdAt
    rw [if_pos (h.dn _ (by rw [show ((p.es.getD i 0).toNat : Int) = p.es.getD i 0 by omega]; exact hm))]
theorem part_zero {g : Gr} {p : Mo} : partE g p = 0 ↔ validE g = 0 ∧ PartOk g p := by
  unfold partE
  rw [← right_zero]
  split
  · rename_i h; exact ⟨fun e => absurd e h, fun e => absurd e.1 h⟩
  · rename_i h; exact ⟨fun e => ⟨by omega, e⟩, fun e => e.2⟩

/-! the least part with some elements -/
def touch (g : Gr) (eb : Nat → Bool) (i : Nat) : Bool := (List.range g.es.length).any fun e => eb e && (decide (frN g e = i) || decide (toN g e = i))
theorem touch_iff {g : Gr} {eb : Nat → Bool} {i : Nat} : touch g eb i = true ↔ ∃ e, e < g.es.length ∧ eb e = true ∧ (frN g e = i ∨ toN g e = i) := by
  unfold touch
  simp [List.any_eq_true]
def leastP (g : Gr) (nb eb : Nat → Bool) : Mo := ⟨sel (fun i => nb i || touch g eb i) g.ns.length, sel eb g.es.length⟩
theorem fr_eq {g : Gr} (h : validE g = 0) {i : Nat} (hi : i < g.es.length) : (g.es.getD i default).fr = (frN g i : Int) ∧ frN g i < g.ns.length ∧ (g.es.getD i default).tq = (toN g i : Int) ∧ toN g i < g.ns.length := by
  obtain ⟨⟨h1, h2⟩, h3, h4⟩ := valid_at h hi
  unfold frN toN
  omega
theorem least_ok {g : Gr} (h : validE g = 0) (nb eb : Nat → Bool) : PartOk g (leastP g nb eb) := by
  refine ⟨sel_asc _ _, sel_rng, sel_asc _ _, sel_rng, fun i hi => ?_⟩
  obtain ⟨h1, h2⟩ := sel_has.1 hi
  obtain ⟨e1, l1, e2, l2⟩ := fr_eq h h1
  rw [e1, e2]
  exact ⟨sel_has.2 ⟨l1, by rw [Bool.or_eq_true]; exact .inr (touch_iff.2 ⟨i, h1, h2, .inl rfl⟩)⟩, sel_has.2 ⟨l2, by rw [Bool.or_eq_true]; exact .inr (touch_iff.2 ⟨i, h1, h2, .inr rfl⟩)⟩⟩
/-- it is contained in every part that contains them -/
theorem least_in {g : Gr} (h : validE g = 0) {nb eb : Nat → Bool} {q : Mo} (hq : PartOk g q) (h1 : ∀ i, i < g.ns.length → nb i = true → (i : Int) ∈ q.ns) (h2 : ∀ i, i < g.es.length → eb i = true → (i : Int) ∈ q.es) :
    (∀ x ∈ (leastP g nb eb).ns, x ∈ q.ns) ∧ ∀ x ∈ (leastP g nb eb).es, x ∈ q.es := by
  constructor
  · intro x hx
    obtain ⟨i, hi, hb, rfl⟩ := sel_mem.1 hx
    rcases Bool.or_eq_true _ _ ▸ hb with hb | hb
    · exact h1 i hi hb
    · obtain ⟨e, he, hb, ht⟩ := touch_iff.1 hb
      obtain ⟨e1, _, e2, _⟩ := fr_eq h he
      have hd := hq.dn e (h2 e he hb)
      rcases ht with rfl | rfl
      · rw [← e1]; exact hd.1
      · rw [← e2]; exact hd.2
  · intro x hx
    obtain ⟨i, hi, hb, rfl⟩ := sel_mem.1 hx
    exact h2 i hi hb
def rngAt (l : List Int) (n k : Nat) : Nat := if idxB (l.getD k 0) n = true then 0 else 6
def rngE (l : List Int) (n : Nat) : Nat := fstN (rngAt l n) 0 l.length
theorem rng_iff {l : List Int} {n : Nat} : rngE l n = 0 ↔ ∀ x ∈ l, 0 ≤ x ∧ x < n := by
  constructor
  · intro h x hx
    obtain ⟨k, hk, rfl⟩ := List.mem_iff_getElem.1 hx
    have hz := fstN_zero h k (by omega) (by omega)
    unfold rngAt at hz
    rw [List.getD_eq_getElem?_getD, List.getElem?_eq_getElem hk, Option.getD_some] at hz
    split at hz
    · rename_i h; exact idxB_iff.1 h
    · omega
  · intro h
    apply fstN_all
    intro i _ hi
    unfold rngAt
    rw [if_pos (idxB_iff.2 (h _ (getD_mem (by omega))))]
def closeE (g : Gr) (vs xs : List Int) : Nat := if validE g ≠ 0 then validE g else if rngE vs g.ns.length ≠ 0 then rngE vs g.ns.length else rngE xs g.es.length
def inB (l : List Int) (i : Nat) : Bool := decide ((i : Int) ∈ l)
theorem inB_iff {l : List Int} {i : Nat} : inB l i = true ↔ (i : Int) ∈ l := decide_eq_true_iff
def closeP (g : Gr) (vs xs : List Int) : Mo := if closeE g vs xs = 0 then leastP g (inB vs) (inB xs) else noM
theorem close_zero {g : Gr} {vs xs : List Int} : closeE g vs xs = 0 ↔ validE g = 0 ∧ (∀ x ∈ vs, 0 ≤ x ∧ x < g.ns.length) ∧ ∀ x ∈ xs, 0 ≤ x ∧ x < g.es.length := by
  rw [← rng_iff, ← rng_iff]
  unfold closeE
  split
  · rename_i h; exact ⟨fun e => absurd e h, fun e => absurd e.1 h⟩
  · split
    · rename_i h; exact ⟨fun e => absurd e h, fun e => absurd e.2.1 h⟩
    · rename_i h1 h2; exact ⟨fun e => ⟨by omega, by omega, e⟩, fun e => e.2.2⟩

/-! union and intersection -/
def twoE (g : Gr) (p q : Mo) : Nat := if partE g p ≠ 0 then partE g p else rightE g q
theorem two_zero {g : Gr} {p q : Mo} : twoE g p q = 0 ↔ validE g = 0 ∧ PartOk g p ∧ PartOk g q := by
  unfold twoE
  rw [← right_zero (p := q), ← and_assoc, ← part_zero]
  split
  · rename_i h; exact ⟨fun e => absurd e h, fun e => absurd e.1 h⟩
  · rename_i h; exact ⟨fun e => ⟨by omega, e⟩, fun e => e.2⟩
def orL (a b : List Int) (n : Nat) : List Int := sel (fun i => inB a i || inB b i) n
def andL (a b : List Int) (n : Nat) : List Int := sel (fun i => inB a i && inB b i) n
theorem orL_has {a b : List Int} {n i : Nat} : (i : Int) ∈ orL a b n ↔ i < n ∧ ((i : Int) ∈ a ∨ (i : Int) ∈ b) := by
  unfold orL; rw [sel_has, Bool.or_eq_true, inB_iff, inB_iff]
theorem andL_has {a b : List Int} {n i : Nat} : (i : Int) ∈ andL a b n ↔ i < n ∧ (i : Int) ∈ a ∧ (i : Int) ∈ b := by
  unfold andL; rw [sel_has, Bool.and_eq_true, inB_iff, inB_iff]
def orP (g : Gr) (p q : Mo) : Mo := ⟨orL p.ns q.ns g.ns.length, orL p.es q.es g.es.length⟩
def andP (g : Gr) (p q : Mo) : Mo := ⟨andL p.ns q.ns g.ns.length, andL p.es q.es g.es.length⟩
def joinP (g : Gr) (p q : Mo) : Mo := if twoE g p q = 0 then orP g p q else noM
def meetP (g : Gr) (p q : Mo) : Mo := if twoE g p q = 0 then andP g p q else noM
theorem has_nat {l : List Int} {n : Nat} (h : ∀ x ∈ l, 0 ≤ x ∧ x < (n : Int)) {x : Int} (hx : x ∈ l) : ∃ i : Nat, i < n ∧ x = i := ⟨x.toNat, by have := h x hx; omega, by have := h x hx; omega⟩
theorem or_ok {g : Gr} {p q : Mo} (h : PartOk g p) (k : PartOk g q) : PartOk g (orP g p q) := by
  refine ⟨sel_asc _ _, sel_rng, sel_asc _ _, sel_rng, fun i hi => ?_⟩
  obtain ⟨_, hb⟩ := orL_has.1 hi
  have lift : ∀ x : Int, (x ∈ p.ns ∨ x ∈ q.ns) → x ∈ orL p.ns q.ns g.ns.length := fun x hx => by
    obtain ⟨j, hj, rfl⟩ : ∃ j : Nat, j < g.ns.length ∧ x = j := by
      rcases hx with hx | hx
      · exact has_nat h.rn hx
      · exact has_nat k.rn hx
    exact orL_has.2 ⟨hj, hx⟩
  rcases hb with hb | hb
  · exact ⟨lift _ (.inl (h.dn i hb).1), lift _ (.inl (h.dn i hb).2)⟩
  · exact ⟨lift _ (.inr (k.dn i hb).1), lift _ (.inr (k.dn i hb).2)⟩
theorem and_ok {g : Gr} {p q : Mo} (h : PartOk g p) (k : PartOk g q) : PartOk g (andP g p q) := by
  refine ⟨sel_asc _ _, sel_rng, sel_asc _ _, sel_rng, fun i hi => ?_⟩
  obtain ⟨_, h1, h2⟩ := andL_has.1 hi
  have lift : ∀ x : Int, x ∈ p.ns → x ∈ q.ns → x ∈ andL p.ns q.ns g.ns.length := fun x hx hy => by
    obtain ⟨j, hj, rfl⟩ := has_nat h.rn hx
    exact andL_has.2 ⟨hj, hx, hy⟩
  exact ⟨lift _ (h.dn i h1).1 (k.dn i h2).1, lift _ (h.dn i h1).2 (k.dn i h2).2⟩
theorem abs_and {a b : List Int} {n : Nat} (h : Asc a) (hr : ∀ x ∈ a, 0 ≤ x ∧ x < n) : andL a (orL a b n) n = a := by
  refine (asc_eq_sel h hr fun i hi => ?_).symm
  rw [Bool.and_eq_true, inB_iff, inB_iff, orL_has]
  exact ⟨fun m => ⟨m, hi, .inl m⟩, fun m => m.1⟩
theorem abs_or {a b : List Int} {n : Nat} (h : Asc a) (hr : ∀ x ∈ a, 0 ≤ x ∧ x < n) : orL a (andL a b n) n = a := by
  refine (asc_eq_sel h hr fun i hi => ?_).symm
  rw [Bool.or_eq_true, inB_iff, inB_iff, andL_has]
  exact ⟨.inl, fun m => m.elim id fun m => m.2.1⟩
/-- they absorb one another -/
theorem meet_join {g : Gr} {p q : Mo} (h : PartOk g p) : andP g p (orP g p q) = p := by
  unfold andP orP; rw [abs_and h.an h.rn, abs_and h.ae h.re]
theorem join_meet {g : Gr} {p q : Mo} (h : PartOk g p) : orP g p (andP g p q) = p := by
  unfold andP orP; rw [abs_or h.an h.rn, abs_or h.ae h.re]

/-! the graph of a part, and its inclusion -/
def idxOf (l : List Int) (x : Int) : Nat → Int
  | 0 => -1
  | k + 1 => if idxOf l x k ≠ -1 then idxOf l x k else if l.getD k 0 = x then k else -1
theorem idx_not {l : List Int} {x : Int} {k : Nat} (h : ∀ i, i < k → l.getD i 0 ≠ x) : idxOf l x k = -1 := by
  induction k with
  | zero => rfl
  | succ k ih =>
    simp only [idxOf]
    rw [ih fun i hi => h i (by omega), if_neg (by simp), if_neg (h k (by omega))]
theorem idx_at {l : List Int} (h : l.Nodup) {i j : Nat} (hi : i < j) (hj : j ≤ l.length) : idxOf l (l.getD i 0) j = i := by
  induction j with
  | zero => omega
  | succ j ih =>
    simp only [idxOf]
    by_cases e : i < j
    · rw [ih e (by omega), if_pos (by omega)]
    · have e : i = j := by omega
      subst e
      rw [idx_not (fun k hk => (nodup_iff.1 h i k (by omega) hk).symm), if_neg (by simp), if_pos rfl]
def subEd (g : Gr) (p : Mo) (k : Nat) : Ed := ⟨(g.es.getD (p.es.getD k 0).toNat default).ty, idxOf p.ns (g.es.getD (p.es.getD k 0).toNat default).fr p.ns.length, idxOf p.ns (g.es.getD (p.es.getD k 0).toNat default).tq p.ns.length⟩
def subNd (g : Gr) (p : Mo) (k : Nat) : Int := g.ns.getD (p.ns.getD k 0).toNat 0
def subG (g : Gr) (p : Mo) : Gr := ⟨coll (fun k => [subNd g p k]) p.ns.length, coll (fun k => [subEd g p k]) p.es.length⟩
def extG (g : Gr) (p : Mo) : Gr := if partE g p = 0 then subG g p else noG
def extM (g : Gr) (p : Mo) : Mo := if partE g p = 0 then p else noM
theorem asc_len {l : List Int} {n : Nat} (h : Asc l) (hr : ∀ x ∈ l, 0 ≤ x ∧ x < n) : l.length ≤ n := by
  rw [← sel_self h hr]; exact sel_le _ _
theorem sub_fr {g : Gr} {p : Mo} (h : PartOk g p) {k : Nat} (hk : k < p.es.length) :
    ∃ i j : Nat, i < p.ns.length ∧ j < p.ns.length ∧ (subEd g p k).fr = i ∧ (subEd g p k).tq = j ∧ p.ns.getD i 0 = (g.es.getD (p.es.getD k 0).toNat default).fr ∧ p.ns.getD j 0 = (g.es.getD (p.es.getD k 0).toNat default).tq := by
  have hm := getD_mem (l := p.es) (d := 0) hk
  have hr := h.re _ hm
  obtain ⟨h1, h2⟩ := h.dn (p.es.getD k 0).toNat (by rw [show ((p.es.getD k 0).toNat : Int) = p.es.getD k 0 by omega]; exact hm)
  obtain ⟨i, hi, e1⟩ := List.mem_iff_getElem.1 h1
  obtain ⟨j, hj, e2⟩ := List.mem_iff_getElem.1 h2
  have e1' : p.ns.getD i 0 = (g.es.getD (p.es.getD k 0).toNat default).fr := by rw [List.getD_eq_getElem?_getD, List.getElem?_eq_getElem hi]; exact e1
  have e2' : p.ns.getD j 0 = (g.es.getD (p.es.getD k 0).toNat default).tq := by rw [List.getD_eq_getElem?_getD, List.getElem?_eq_getElem hj]; exact e2
  refine ⟨i, j, hi, hj, ?_, ?_, e1', e2'⟩
  · show idxOf p.ns _ _ = _
    rw [← e1']; exact idx_at (asc_nodup h.an) hi (Nat.le_refl _)
  · show idxOf p.ns _ _ = _
    rw [← e2']; exact idx_at (asc_nodup h.an) hj (Nat.le_refl _)
theorem sub_valid {g : Gr} {p : Mo} (hg : validE g = 0) (h : PartOk g p) : validE (subG g p) = 0 := by
  obtain ⟨v1, v2, v3, v4⟩ := valid_zero hg
  have l1 := asc_len h.an h.rn
  have l2 := asc_len h.ae h.re
  have q1 : (subG g p).ns.length = p.ns.length := coll_len _ _
  have q2 : (subG g p).es.length = p.es.length := coll_len _ _
  refine valid_ok (by omega) (by omega) (fun i hi => ?_) (fun i hi => ?_)
  · rw [q1] at hi
    show idxB ((coll (fun k => [subNd g p k]) p.ns.length).getD i 0) 100 = true
    rw [coll_getD _ hi]
    have := h.rn _ (getD_mem (d := 0) hi)
    exact idxB_iff.2 (v3 _ (getD_mem (by omega)))
  · rw [q1]
    rw [q2] at hi
    show edB ((coll (fun k => [subEd g p k]) p.es.length).getD i default) p.ns.length = true
    rw [coll_getD _ hi]
    obtain ⟨a, b, ha, hb, e1, e2, _, _⟩ := sub_fr h hi
    have hr := h.re _ (getD_mem (d := 0) hi)
    have ht := edB_iff.1 (v4 _ (getD_mem (d := default) (i := (p.es.getD i 0).toNat) (by omega)))
    refine edB_iff.2 ⟨ht.1, ?_, ?_⟩
    · rw [e1]; omega
    · rw [e2]; omega
theorem incl_ok {g : Gr} {p : Mo} (hg : validE g = 0) (h : PartOk g p) : MorOk (subG g p) g p := by
  have q1 : (subG g p).ns.length = p.ns.length := coll_len _ _
  have q2 : (subG g p).es.length = p.es.length := coll_len _ _
  refine ⟨sub_valid hg h, hg, q1.symm, q2.symm, fun i hi => ?_, fun i hi => ?_⟩
  · rw [q1] at hi
    have := h.rn _ (getD_mem (d := 0) hi)
    refine ⟨this, ?_⟩
    show _ = (coll (fun k => [subNd g p k]) p.ns.length).getD i 0
    rw [coll_getD _ hi]; rfl
  · rw [q2] at hi
    have := h.re _ (getD_mem (d := 0) hi)
    obtain ⟨a, b, ha, hb, e1, e2, e3, e4⟩ := sub_fr h hi
    have e : (subG g p).es.getD i default = subEd g p i := coll_getD _ hi _
    refine ⟨this, ?_, ?_, ?_⟩
    · rw [e]; rfl
    · rw [e, e1, Int.toNat_natCast]; exact e3
    · rw [e, e2, Int.toNat_natCast]; exact e4
theorem incl_inj {g : Gr} {p : Mo} (h : PartOk g p) : InjM p := ⟨asc_nodup h.an, asc_nodup h.ae⟩

/-! images and preimages -/
def imgP (b : Gr) (m : Mo) : Mo := ⟨sel (inB m.ns) b.ns.length, sel (inB m.es) b.es.length⟩
def imR (a b : Gr) (m : Mo) : Mo := if morE a b m = 0 then imgP b m else noM
def intoL (l k : List Int) : List Int := sel (fun i => decide (l.getD i 0 ∈ k)) l.length
def preP (m p : Mo) : Mo := ⟨intoL m.ns p.ns, intoL m.es p.es⟩
def preE (a b : Gr) (m p : Mo) : Nat := if morE a b m ≠ 0 then morE a b m else rightE b p
def preR (a b : Gr) (m p : Mo) : Mo := if preE a b m p = 0 then preP m p else noM
theorem into_has {l k : List Int} {i : Nat} : (i : Int) ∈ intoL l k ↔ i < l.length ∧ l.getD i 0 ∈ k := by
  unfold intoL; rw [sel_has, decide_eq_true_iff]
theorem img_self {g : Gr} {p : Mo} (h : PartOk g p) : imgP g p = p := by
  have e1 : sel (inB p.ns) g.ns.length = p.ns := sel_self h.an h.rn
  have e2 : sel (inB p.es) g.es.length = p.es := sel_self h.ae h.re
  unfold imgP; rw [e1, e2]
/-- containment, as the reference decides it -/
def inP (p q : Mo) : Bool := decide ((intoL p.ns q.ns).length = p.ns.length) && decide ((intoL p.es q.es).length = p.es.length)
theorem sel_full {f : Nat → Bool} {n : Nat} : (sel f n).length = n ↔ ∀ i, i < n → f i = true := by
  induction n with
  | zero => exact ⟨fun _ i hi => by omega, fun _ => rfl⟩
  | succ n ih =>
    have hl := sel_le f n
    rw [sel_succ, List.length_append]
    constructor
    · intro h i hi
      by_cases hf : f n = true
      · rw [if_pos hf, List.length_singleton] at h
        by_cases e : i = n
        · subst e; exact hf
        · exact ih.1 (by omega) i (by omega)
      · rw [if_neg hf, List.length_nil] at h; omega
    · intro h
      rw [if_pos (h n (by omega)), List.length_singleton, ih.2 fun i hi => h i (by omega)]
theorem into_full {l k : List Int} : (intoL l k).length = l.length ↔ ∀ x ∈ l, x ∈ k := by
  unfold intoL
  rw [sel_full]
  constructor
  · intro h x hx
    obtain ⟨i, hi, rfl⟩ := List.mem_iff_getElem.1 hx
    have := of_decide_eq_true (h i hi)
    rwa [List.getD_eq_getElem?_getD, List.getElem?_eq_getElem hi] at this
  · intro h i hi
    exact decide_eq_true (h _ (getD_mem hi))
theorem inP_iff {p q : Mo} : inP p q = true ↔ (∀ x ∈ p.ns, x ∈ q.ns) ∧ ∀ x ∈ p.es, x ∈ q.es := by
  unfold inP
  rw [Bool.and_eq_true, decide_eq_true_iff, decide_eq_true_iff, into_full, into_full]
theorem img_in {l k : List Int} {n : Nat} (hr : ∀ x ∈ l, 0 ≤ x ∧ x < n) : (∀ x ∈ sel (inB l) n, x ∈ k) ↔ ∀ x ∈ l, x ∈ k := by
  constructor
  · intro h x hx
    obtain ⟨i, hi, rfl⟩ := has_nat hr hx
    exact h _ (sel_has.2 ⟨hi, inB_iff.2 hx⟩)
  · intro h x hx
    obtain ⟨i, _, hb, rfl⟩ := sel_mem.1 hx
    exact h _ (inB_iff.1 hb)
theorem thr_in {l m k : List Int} (hr : ∀ x ∈ l, 0 ≤ x ∧ x < m.length) : (∀ x ∈ thr l m, x ∈ k) ↔ ∀ x ∈ l, x ∈ intoL m k := by
  constructor
  · intro h x hx
    obtain ⟨i, hi, rfl⟩ := has_nat hr hx
    exact into_has.2 ⟨hi, h _ (List.mem_map.2 ⟨(i : Int), hx, by simp⟩)⟩
  · intro h x hx
    obtain ⟨y, hy, rfl⟩ := List.mem_map.1 hx
    obtain ⟨i, hi, rfl⟩ := has_nat hr hy
    have := (into_has.1 (h _ hy)).2
    simpa using this
/-- the image of a part is contained in a part exactly if the part is contained in its preimage -/
theorem adjoint {a b : Gr} {m : Mo} (h : MorOk a b m) {p q : Mo} (hp : PartOk a p) : inP (imgP b (compM p m)) q = inP p (preP m q) := by
  have hc := comp_ok (incl_ok h.va hp) h
  have r1 : ∀ x ∈ thr p.ns m.ns, 0 ≤ x ∧ x < b.ns.length := hc.rn
  have r2 : ∀ x ∈ thr p.es m.es, 0 ≤ x ∧ x < b.es.length := hc.re
  rw [Bool.eq_iff_iff, inP_iff, inP_iff]
  show ((∀ x ∈ sel (inB (thr p.ns m.ns)) b.ns.length, x ∈ q.ns) ∧ ∀ x ∈ sel (inB (thr p.es m.es)) b.es.length, x ∈ q.es) ↔ (∀ x ∈ p.ns, x ∈ intoL m.ns q.ns) ∧ ∀ x ∈ p.es, x ∈ intoL m.es q.es
  rw [img_in r1, img_in r2, thr_in (by have := hp.rn; rw [h.ln]; exact this), thr_in (by have := hp.re; rw [h.le]; exact this)]

/-! the boundary -/
def bndL (g : Gr) (p : Mo) : List Int := sel (fun i => inB p.ns i && touch g (fun e => !inB p.es e) i) g.ns.length
def bndR (g : Gr) (p : Mo) : List Int := if partE g p = 0 then bndL g p else []
theorem bnd_has {g : Gr} {p : Mo} {i : Nat} : (i : Int) ∈ bndL g p ↔ i < g.ns.length ∧ (i : Int) ∈ p.ns ∧ ∃ e, e < g.es.length ∧ ¬ (e : Int) ∈ p.es ∧ (frN g e = i ∨ toN g e = i) := by
  unfold bndL
  rw [sel_has, Bool.and_eq_true, inB_iff, touch_iff]
  simp only [Bool.not_eq_true', ← Bool.not_eq_true, inB_iff]

end Go.Proofs.YthnhacncnhknnaaDoor

/-
  The boundary of a part and the connected components, as plain data.
-/
namespace Go.Proofs.YthnhacncnhknnaaDoor
open Pt (at_)

theorem nds_has {L : List Nat} {n r i : Nat} : (i : Int) ∈ ndsOf L n r ↔ i < n ∧ at_ L i = r := by
  unfold ndsOf
  rw [coll_mem]
  constructor
  · rintro ⟨k, hk, h⟩
    split at h
    · rename_i e; have : i = k := by simp at h; omega
      subst this; exact ⟨hk, e⟩
    · simp at h
  · rintro ⟨h1, h2⟩; exact ⟨i, h1, by rw [if_pos h2]; simp⟩
theorem eds_has {g : Gr} {L : List Nat} {m r i : Nat} : (i : Int) ∈ edsOf g L m r ↔ i < m ∧ at_ L (frN g i) = r := by
  unfold edsOf
  rw [coll_mem]
  constructor
  · rintro ⟨k, hk, h⟩
    split at h
    · rename_i e; have : i = k := by simp at h; omega
      subst this; exact ⟨hk, e⟩
    · simp at h
  · rintro ⟨h1, h2⟩; exact ⟨i, h1, by rw [if_pos h2]; simp⟩
theorem nds_sel (L : List Nat) (n r : Nat) : ndsOf L n r = sel (fun i => decide (at_ L i = r)) n := coll_ext fun i _ => by simp only [decide_eq_true_eq]
theorem eds_sel (g : Gr) (L : List Nat) (n r : Nat) : edsOf g L n r = sel (fun i => decide (at_ L (frN g i) = r)) n := coll_ext fun i _ => by simp only [decide_eq_true_eq]
theorem comp_mem {g : Gr} (hv : validE g = 0) {c : Mo} : c ∈ compR g ↔ ∃ r, r < g.ns.length ∧ at_ (lstS g) r = r ∧ c = ⟨ndsOf (lstS g) g.ns.length r, edsOf g (lstS g) g.es.length r⟩ := by
  unfold compR
  rw [if_pos hv]
  unfold compTo Pt.fixsTo
  simp only [List.mem_map, List.mem_filter, List.mem_range, beq_iff_eq]
  constructor
  · rintro ⟨r, ⟨h1, h2⟩, rfl⟩; exact ⟨r, h1, h2, rfl⟩
  · rintro ⟨r, h1, h2, rfl⟩; exact ⟨r, ⟨h1, h2⟩, rfl⟩
theorem comp_part {g : Gr} (hv : validE g = 0) {c : Mo} (h : c ∈ compR g) : PartOk g c := by
  obtain ⟨r, h1, h2, rfl⟩ := (comp_mem hv).1 h
  refine ⟨?_, ?_, ?_, ?_, fun i hi => ?_⟩
  · show Asc (ndsOf _ _ _); rw [nds_sel]; exact sel_asc _ _
  · show ∀ x ∈ ndsOf _ _ _, _; rw [nds_sel]; exact sel_rng
  · show Asc (edsOf _ _ _ _); rw [eds_sel]; exact sel_asc _ _
  · show ∀ x ∈ edsOf _ _ _ _, _; rw [eds_sel]; exact sel_rng
  · obtain ⟨hi, e⟩ := eds_has.1 hi
    obtain ⟨e1, l1, e2, l2⟩ := fr_eq hv hi
    rw [e1, e2]
    exact ⟨nds_has.2 ⟨l1, e⟩, nds_has.2 ⟨l2, by rw [← lst_edge hv hi]; exact e⟩⟩
/-- a part without a boundary has all nodes that are connected, or none of them -/
theorem bnd_conn {g : Gr} (hv : validE g = 0) {p : Mo} (hb : bndL g p = []) (hp : PartOk g p) {i k : Nat} (hi : i < g.ns.length) (hk : k < g.ns.length) (e : at_ (lstS g) i = at_ (lstS g) k) (h : (i : Int) ∈ p.ns) : (k : Int) ∈ p.ns := by
  have hin : ∀ x, x < g.es.length → ((frN g x : Int) ∈ p.ns ∨ (toN g x : Int) ∈ p.ns) → (x : Int) ∈ p.es := fun x hx hor => by
    refine Classical.byContradiction fun hn => ?_
    obtain ⟨_, l1, _, l2⟩ := fr_eq hv hx
    rcases hor with h | h
    · have := bnd_has.2 ⟨l1, h, x, hx, hn, .inl rfl⟩
      rw [hb] at this; simp at this
    · have := bnd_has.2 ⟨l2, h, x, hx, hn, .inr rfl⟩
      rw [hb] at this; simp at this
  have q : Pt.Resp ((List.range g.ns.length).map fun (j : Nat) => if (j : Int) ∈ p.ns then 1 else 0) (endsL g) := by
    intro x hx
    obtain ⟨y, hy, e⟩ := List.mem_iff_getElem.1 hx
    have hy' : y < g.es.length := by simpa [endsL_len] using hy
    have e2 : (endsL g)[y]? = some x := by rw [List.getElem?_eq_getElem hy, e]
    rw [endsL_get hy'] at e2
    injection e2 with e2
    subst e2
    obtain ⟨e3, l1, e4, l2⟩ := fr_eq hv hy'
    have at1 : ∀ j, j < g.ns.length → at_ ((List.range g.ns.length).map fun (j : Nat) => if (j : Int) ∈ p.ns then 1 else 0) j = if (j : Int) ∈ p.ns then 1 else 0 := fun j hj => by
      unfold at_; simp [hj]
    show at_ _ (frN g y) = at_ _ (toN g y)
    rw [at1 _ l1, at1 _ l2]
    by_cases h1 : (frN g y : Int) ∈ p.ns
    · have := hp.dn y (hin y hy' (.inl h1))
      rw [e4] at this
      rw [if_pos h1, if_pos this.2]
    · by_cases h2 : (toN g y : Int) ∈ p.ns
      · have := hp.dn y (hin y hy' (.inr h2))
        rw [e3] at this
        exact absurd this.1 h1
      · rw [if_neg h1, if_neg h2]
  have hF := Pt.gen_least (ends_inR hv) q
  have at1 : ∀ j, j < g.ns.length → at_ ((List.range g.ns.length).map fun (j : Nat) => if (j : Int) ∈ p.ns then 1 else 0) j = if (j : Int) ∈ p.ns then 1 else 0 := fun j hj => by
    unfold at_; simp [hj]
  have f1 := hF i (by rw [Pt.genS_length]; exact hi)
  have f2 := hF k (by rw [Pt.genS_length]; exact hk)
  have e' : at_ (Pt.genS g.ns.length (endsL g)) i = at_ (Pt.genS g.ns.length (endsL g)) k := e
  rw [e', f2, at1 k hk, at1 i hi, if_pos h] at f1
  by_cases hk2 : (k : Int) ∈ p.ns
  · exact hk2
  · rw [if_neg hk2] at f1; omega
theorem bnd_whole {g : Gr} (hv : validE g = 0) {p : Mo} (hp : PartOk g p) : (∀ c ∈ compR g, andL c.ns p.ns g.ns.length ≠ [] → inP c p = true) ↔ bndL g p = [] := by
  have hV := lstS_V hv
  have hlen := lstS_len g
  constructor
  · intro h
    refine List.eq_nil_iff_forall_not_mem.2 fun x hx => ?_
    obtain ⟨i, hi, _, rfl⟩ := sel_mem.1 hx
    obtain ⟨_, hin, e, he, hne, ht⟩ := bnd_has.1 hx
    obtain ⟨_, l1, _, l2⟩ := fr_eq hv he
    have hl := lst_edge hv he
    have hr := hV i (by omega)
    have hc : (⟨ndsOf (lstS g) g.ns.length (at_ (lstS g) i), edsOf g (lstS g) g.es.length (at_ (lstS g) i)⟩ : Mo) ∈ compR g := (comp_mem hv).2 ⟨_, by omega, hr.2, rfl⟩
    have hm := h _ hc (fun e0 => by
      have : (i : Int) ∈ andL (ndsOf (lstS g) g.ns.length (at_ (lstS g) i)) p.ns g.ns.length := andL_has.2 ⟨hi, nds_has.2 ⟨hi, rfl⟩, hin⟩
      have e1 : andL (ndsOf (lstS g) g.ns.length (at_ (lstS g) i)) p.ns g.ns.length = [] := e0
      rw [e1] at this; simp at this)
    refine hne ((inP_iff.1 hm).2 _ (eds_has.2 ⟨he, ?_⟩))
    rcases ht with e | e
    · rw [e]
    · rw [hl, e]
  · intro hb c hc hne
    obtain ⟨r, hr, hrr, rfl⟩ := (comp_mem hv).1 hc
    obtain ⟨x, hx⟩ := List.exists_mem_of_ne_nil _ hne
    obtain ⟨i, hi, _, rfl⟩ := sel_mem.1 hx
    obtain ⟨_, hx1, hx2⟩ := andL_has.1 hx
    obtain ⟨_, hx1⟩ := nds_has.1 hx1
    have hall : ∀ k, k < g.ns.length → at_ (lstS g) k = r → (k : Int) ∈ p.ns := fun k hk e => bnd_conn hv hb hp hi hk (by rw [hx1, e]) hx2
    refine inP_iff.2 ⟨fun y hy => ?_, fun y hy => ?_⟩
    · have hy' : y ∈ ndsOf (lstS g) g.ns.length r := hy
      obtain ⟨k, hk, rfl⟩ := has_nat (n := g.ns.length) (by rw [nds_sel]; exact sel_rng) hy'
      exact hall k hk (nds_has.1 hy').2
    · have hy' : y ∈ edsOf g (lstS g) g.es.length r := hy
      obtain ⟨k, hk, rfl⟩ := has_nat (n := g.es.length) (by rw [eds_sel]; exact sel_rng) hy'
      obtain ⟨_, e⟩ := eds_has.1 hy'
      obtain ⟨_, l1, _, _⟩ := fr_eq hv hk
      refine Classical.byContradiction fun hn => ?_
      have := bnd_has.2 ⟨l1, hall _ l1 e, k, hk, hn, .inl rfl⟩
      rw [hb] at this; simp at this

end Go.Proofs.YthnhacncnhknnaaDoor
