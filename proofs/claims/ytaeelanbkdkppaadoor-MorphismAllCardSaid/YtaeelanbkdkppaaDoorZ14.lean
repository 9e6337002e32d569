import Derived.Test.YtaeelanbkdkppaaDoorZ13
import Derived.Test.YtaeelanbkdkppaaDoorZ10
import Derived.Test.YtaeelanbkdkppaaDoorZ12
/-
  The reference's Valid. Printed by mkrval.py out of XMVal.
-/
namespace Go.Proofs.YtaeelanbkdkppaaDoor
open Go.RowKit Go.Shelf

set_option maxRecDepth 100000 in
set_option maxHeartbeats 4000000 in
theorem validR6_any (a b : Gr) (m : Mo) (An : Option Addr) (cn : Nat) (Ae : Option Addr) (ce : Nat) (Bn : Option Addr) (dn : Nat) (Be : Option Addr) (de : Nat) (Mn : Option Addr) (mn : Nat) (Me : Option Addr) (me : Nat) (w : World)
    (hT : GrAt w An cn Ae ce a) (hU : GrAt w Bn dn Be de b) (hM : Ints w w.heap.size Mn m.ns) (hN : Ints w w.heap.size Me m.es) (hl1 : m.ns.length ≤ 1000) (hl2 : m.es.length ≤ 1000) :
    Calls Tryd.prog 14 #[gval An a.ns.length cn Ae a.es.length ce, gval Bn b.ns.length dn Be b.es.length de, gval Mn m.ns.length mn Me m.es.length me] w fun e w' => e = .returned (.int .i64 (morE a b m)) ∧ Below w.heap.size w w' := by
  obtain ⟨B, hB⟩ : ∃ B, B = w.heap.size := ⟨_, rfl⟩
  have hV0 := VS.new w (.slice An a.ns.length cn) (.slice Ae a.es.length ce) (.slice Bn b.ns.length dn) (.slice Be b.es.length de) (.slice Mn m.ns.length mn) (.slice Me m.es.length me)
  rw [← hB] at hV0
  have HV0 := Lib.hid hV0
  have HCa := Lib.hid (fun (u : World) (hu : Below w.heap.size w u) => validR_any a An cn Ae ce u (hT.up hu))
  have HCb := Lib.hid (fun (u : World) (hu : Below w.heap.size w u) => validR_any b Bn dn Be de u (hU.up hu))
  have HCE : Hid (chkE a b = if validE a ≠ 0 then validE a else validE b) := Lib.hid rfl
  have HR : Hid (morE a b m = if chkE a b ≠ 0 then chkE a b else if m.ns.length ≠ a.ns.length ∨ m.es.length ≠ a.es.length then 20
      else if fstN (mnAt a b m) 0 a.ns.length ≠ 0 then fstN (mnAt a b m) 0 a.ns.length else fstN (meAt a b m) 0 a.es.length) := Lib.hid (by
    unfold morE chkE
    by_cases h1 : validE a = 0
    · simp [h1]
    · simp [h1])
  have HCZ := Lib.hid (fun h => valid_zero (g := a) h)
  have HCV : Hid (chkE a b = 0 → validE a = 0) := Lib.hid (by unfold chkE; split <;> intro h <;> omega)
  have HT := Lib.hid hT
  have HU := Lib.hid hU
  have HM := Lib.hid hM
  have HM0 := Lib.hid hM
  have HN := Lib.hid hN
  have HVE := Lib.hid (fun (h : validE a = 0) i (hi : i < a.es.length) => valid_at h hi)
  clear hT hU hM hN hV0
  generalize morE a b m = R at HR ⊢
  generalize chkE a b = z at *
  generalize validE a = za at *
  generalize validE b = zb at *
  have HBW := Lib.hid hB
  go_enter Tryd.func14, Tryd.ntmps14
  go_wp2_with fail
  refine (HCa.out _ HV0.out.2.2.2.1).mono ?_
  rintro e w0 ⟨rfl, hb1⟩
  have hV := HV0.out.up hb1
  clear hb1 HV0 HCa
  have HV := Lib.hid hV
  have hp := hV.cells
  rw [hB] at hp
  obtain ⟨p1, p2, p3, p4, p5, p6⟩ := hp
  clear hV
  by_cases hz : za = 0
  case neg =>
    have HRR := Lib.hid (show R = za by rw [HR.out, HCE.out, if_pos hz, if_pos hz])
    have t1 : ((za : Int) != 0) = true := by simp; omega
    clear hz hB
    go_wp2_with fail
    go_ret
    exact ⟨ret_int (by rw [HRR.out]), HV.out.2.2.2.1⟩
  subst hz
  have HCE2 := Lib.hid (show z = zb by rw [HCE.out, if_neg (fun h => h rfl)])
  clear HCE
  have hBB := hB
  clear hB
  have HBB := Lib.hid hBB
  clear hBB
  go_wp2_with fail
  refine (HCb.out _ HV.out.2.2.2.1).mono ?_
  rintro e w1 ⟨rfl, hb1⟩
  have hV := HV.out.up hb1
  clear hb1 HV HCb p1 p2 p3 p4 p5 p6
  have HV := Lib.hid hV
  have hp := hV.cells
  rw [HBB.out] at hp
  obtain ⟨p1, p2, p3, p4, p5, p6⟩ := hp
  clear hV
  by_cases hz : zb = 0
  case neg =>
    have HRR := Lib.hid (show R = zb by rw [HR.out, HCE2.out, if_pos hz])
    have t1 : ((zb : Int) != 0) = true := by simp; omega
    clear hz
    go_wp2_with fail
    go_ret
    exact ⟨ret_int (by rw [HRR.out]), HV.out.2.2.2.1⟩
  subst hz
  have hz := HCE2.out
  clear HCE2 HBB
  subst hz
  have HR1 := Lib.hid (show R = if m.ns.length ≠ a.ns.length ∨ m.es.length ≠ a.es.length then 20 else if fstN (mnAt a b m) 0 a.ns.length ≠ 0 then fstN (mnAt a b m) 0 a.ns.length else fstN (meAt a b m) 0 a.es.length by rw [HR.out, if_neg (fun h => h rfl)])
  clear HR
  by_cases h1 : m.ns.length = a.ns.length
  case neg =>
    have HRR := Lib.hid (show R = 20 by rw [HR1.out, if_pos (.inl h1)])
    have t1 : ((m.ns.length : Int) != (a.ns.length : Int)) = true := by simp; omega
    clear h1
    go_wp2_with fail
    go_ret
    exact ⟨ret_int (by rw [HRR.out]; rfl), HV.out.2.2.2.1⟩
  by_cases h2 : m.es.length = a.es.length
  case neg =>
    have HRR := Lib.hid (show R = 20 by rw [HR1.out, if_pos (.inr h2)])
    have t1 : ((m.ns.length : Int) != (a.ns.length : Int)) = false := by simp; omega
    have t2 : ((m.es.length : Int) != (a.es.length : Int)) = true := by simp; omega
    clear h1 h2
    go_wp2_with fail
    go_ret
    exact ⟨ret_int (by rw [HRR.out]; rfl), HV.out.2.2.2.1⟩
  have HR2 := Lib.hid (show R = if fstN (mnAt a b m) 0 a.ns.length ≠ 0 then fstN (mnAt a b m) 0 a.ns.length else fstN (meAt a b m) 0 a.es.length by rw [HR1.out, if_neg (fun h => h.elim (fun h => h h1) (fun h => h h2))])
  have t1 : ((m.ns.length : Int) != (a.ns.length : Int)) = false := by simp; omega
  have t2 : ((m.es.length : Int) != (a.es.length : Int)) = false := by simp; omega
  have HL1 := Lib.hid h1
  have HL2 := Lib.hid h2
  have HVA := Lib.hid (HVE.out (HCV.out rfl))
  obtain ⟨n40, e80, _⟩ := HCZ.out (HCV.out rfl)
  clear HR1 HCZ HCV HVE h1 h2
  have HHIT := Lib.hid (fun k (h : k < a.ns.length) hf => fstN_hit (f := mnAt a b m) h hf)
  have HPASS := Lib.hid (fun k (h : k < a.ns.length) hf => fstN_pass (f := mnAt a b m) h hf)
  have HEND := Lib.hid (fun k (h : a.ns.length ≤ k) => fstN_end (f := mnAt a b m) h)
  have HF : Hid (∀ k, mnAt a b m k = if idxB (m.ns.getD k 0) b.ns.length = false then 6 else if b.ns.getD (m.ns.getD k 0).toNat 0 ≠ a.ns.getD k 0 then 13 else 0) := Lib.hid fun k => rfl
  have HS0 : Hid (fstN (mnAt a b m) 0 a.ns.length = fstN (mnAt a b m) 0 (a.ns.length - 0)) := Lib.hid rfl
  obtain ⟨S, hS⟩ : ∃ S, S = fstN (mnAt a b m) 0 a.ns.length := ⟨_, rfl⟩
  rw [← hS] at HR2 HS0
  clear hS
  generalize mnAt a b m = f at *
  go_wp2_with fail
  clear t1 t2 p1 p2 p3 p4 p5 p6
  go_loopw [9] (fun v wr => ∃ k q : Nat, k ≤ a.ns.length ∧ v = .int .i64 (k : Int) ∧ S = fstN f k (a.ns.length - k) ∧ wr = w1.drewN q) (fun v _ => a.ns.length - (intOf v).toNat)
  case atStart => exact ⟨0, 0, Nat.zero_le _, rfl, HS0.out, rfl⟩
  case round =>
    obtain ⟨k, q, hk, rfl, hSk, rfl⟩ := hrel
    have HSK := Lib.hid hSk
    clear hSk
    have hp := HV.out.cells
    rw [HBW.out] at hp
    obtain ⟨p1, p2, p3, p4, p5, p6⟩ := hp
    by_cases hlt : k < a.ns.length
    · have hla := hlt
      have hlm : k < m.ns.length := by rw [HL1.out]; exact hlt
      obtain ⟨g1, o1, rfl, hg1, hc1⟩ := Ints.cells (HM.out.below HV.out.2.2.2.1) hlm
      obtain ⟨g2, o2, rfl, hg2, hc2⟩ := Ints.cells (HT.out.ns.below HV.out.2.2.2.1) hla
      have c1 := hc1 k hlm
      have c2 := hc2 k hla
      have HFK := Lib.hid (HF.out k)
      have k0 : (0 : Int) ≤ (k : Int) := by omega
      have k1 : (k : Int) < (m.ns.length : Int) := by omega
      have k1' : (k : Int) < (a.ns.length : Int) := by omega
      have k2 : ((k : Int)).toNat = k := by omega
      by_cases hi : idxB (m.ns.getD k 0) b.ns.length = true
      case neg =>
        have hi' : idxB (m.ns.getD k 0) b.ns.length = false := by simpa using hi
        have hf6 : f k = 6 := by rw [HFK.out, if_pos hi']
        have HRR := Lib.hid (show R = 6 by rw [HR2.out, HSK.out, HHIT.out k hla (by omega), hf6]; rfl)
        have hx := idxB_not.1 hi'
        clear hi hi' hf6 hc1 hc2 hla hlm
        generalize m.ns.getD k 0 = x at *
        by_cases hx0 : x < 0
        · have t3 : decide (x < 0) = true := decide_eq_true hx0
          clear hx hx0
          go_wp2_with fail
          go_quiet (fail)
          go_wp2_with fail
          go_ret
          exact ⟨ret_int (by rw [HRR.out]; rfl), below_draws (below_draws HV.out.2.2.2.1 _) _⟩
        · have t3 : decide (x < 0) = false := decide_eq_false hx0
          have t4 : decide (x ≥ (b.ns.length : Int)) = true := decide_eq_true (by omega)
          have hx5 : (b.ns.length : Int) ≤ x := by omega
          have hx6 : ¬ x < (b.ns.length : Int) := by omega
          clear hx hx0
          go_wp2_with fail
          go_quiet (fail)
          go_wp2_with fail
          go_ret
          exact ⟨ret_int (by rw [HRR.out]; rfl), below_draws (below_draws HV.out.2.2.2.1 _) _⟩
      have hx := idxB_iff.1 hi
      obtain ⟨j, hj⟩ : ∃ j : Nat, m.ns.getD k 0 = (j : Int) := ⟨(m.ns.getD k 0).toNat, by omega⟩
      rw [hj] at c1 hx hi HFK
      rw [Int.toNat_natCast] at HFK
      have hjl : j < b.ns.length := by omega
      obtain ⟨g3, o3, rfl, hg3, hc3⟩ := Ints.cells (HU.out.ns.below HV.out.2.2.2.1) hjl
      have c3 := hc3 j hjl
      have j0 : (0 : Int) ≤ (j : Int) := by omega
      have j1 : (j : Int) < (b.ns.length : Int) := by omega
      have j2 : ((j : Int)).toNat = j := by omega
      have t3 : decide ((j : Int) < 0) = false := decide_eq_false (by omega)
      have t4 : decide ((j : Int) ≥ (b.ns.length : Int)) = false := decide_eq_false (by omega)
      have HLA := Lib.hid hla
      have HI := Lib.hid hi
      clear hc1 hc2 hc3 hla hlm hx hj hi
      by_cases he : b.ns.getD j 0 = a.ns.getD k 0
      case neg =>
        have hf : f k = 13 := by rw [HFK.out, if_neg (by rw [HI.out]; simp), if_pos he]
        have HRR := Lib.hid (show R = 13 by rw [HR2.out, HSK.out, HHIT.out k HLA.out (by omega), hf]; rfl)
        have t : (b.ns.getD j 0 != a.ns.getD k 0) = true := bne_iff_ne.2 he
        clear hf he
        generalize b.ns.getD j 0 = y at *
        generalize a.ns.getD k 0 = y2 at *
        go_wp2_with fail
        go_quiet (fail)
        go_wp2_with fail
        go_quiet (fail)
        go_wp2_with fail
        go_ret
        exact ⟨ret_int (by rw [HRR.out]; rfl), below_draws (below_draws (below_draws HV.out.2.2.2.1 _) _) _⟩
      have hf : f k = 0 := by rw [HFK.out, if_neg (by rw [HI.out]; simp), if_neg (fun h => h he)]
      have HE := Lib.hid (show S = fstN f (k + 1) (a.ns.length - (k + 1)) by rw [HSK.out, HPASS.out k HLA.out hf])
      have t : (b.ns.getD j 0 != a.ns.getD k 0) = false := by rw [he]; exact bne_self_eq_false _
      clear hf he
      generalize b.ns.getD j 0 = y at *
      generalize a.ns.getD k 0 = y2 at *
      have HM2 : Hid (a.ns.length - ((k : Int) + 1).toNat < a.ns.length - ((k : Int)).toNat) := Lib.hid (by omega)
      go_wp2_with fail
      go_quiet (fail)
      go_wp2_with fail
      go_quiet (fail)
      go_wp2_with fail
      go_roundw
      case rel => exact ⟨k + 1, _, HLA.out, by go_num, HE.out, rfl⟩
      case measure => exact HM2.out
    · obtain rfl : k = a.ns.length := by omega
      have hS0 : S = 0 := by rw [HSK.out]; exact HEND.out _ (Nat.le_refl _)
      have HR3 := Lib.hid (show R = fstN (meAt a b m) 0 a.es.length by rw [HR2.out, hS0]; simp)
      have HVD : Hid (VS B (.slice An a.ns.length cn) (.slice Ae a.es.length ce) (.slice Bn b.ns.length dn) (.slice Be b.es.length de) (.slice Mn m.ns.length mn) (.slice Me m.es.length me) w (w1.drewN q)) := Lib.hid (HV.out.up (below_draws (Below.refl _ _) q))
      have HB0 := Lib.hid HBW.out
      clear HR2 HSK HHIT HPASS HEND HF HS0 hS0 hlt hk HV
      have HHIT := Lib.hid (fun k (h : k < a.es.length) hf => fstN_hit (f := meAt a b m) h hf)
      have HPASS := Lib.hid (fun k (h : k < a.es.length) hf => fstN_pass (f := meAt a b m) h hf)
      have HEND := Lib.hid (fun k (h : a.es.length ≤ k) => fstN_end (f := meAt a b m) h)
      have HF : Hid (∀ k, meAt a b m k = if idxB (m.es.getD k 0) b.es.length = false then 6
          else if (a.es.getD k default).ty ≠ (b.es.getD (m.es.getD k 0).toNat default).ty then 13
          else if m.ns.getD (a.es.getD k default).fr.toNat 0 ≠ (b.es.getD (m.es.getD k 0).toNat default).fr ∨ m.ns.getD (a.es.getD k default).tq.toNat 0 ≠ (b.es.getD (m.es.getD k 0).toNat default).tq then 11 else 0) := Lib.hid fun k => rfl
      have HS0 : Hid (R = fstN (meAt a b m) 0 (a.es.length - 0)) := Lib.hid HR3.out
      clear HR3
      generalize meAt a b m = f at *
      go_wp2_with fail
      clear p1 p2 p3 p4 p5 p6
      go_loopw [10] (fun v wr => ∃ k : Nat, k ≤ a.es.length ∧ v = .int .i64 (k : Int) ∧ R = fstN f k (a.es.length - k) ∧ VS B (.slice An a.ns.length cn) (.slice Ae a.es.length ce) (.slice Bn b.ns.length dn) (.slice Be b.es.length de) (.slice Mn m.ns.length mn) (.slice Me m.es.length me) w wr) (fun v _ => a.es.length - (intOf v).toNat)
      case atStart => exact ⟨0, Nat.zero_le _, rfl, HS0.out, HVD.out⟩
      case round =>
        obtain ⟨k, hk, rfl, hRk, hV⟩ := hrel
        have HRK := Lib.hid hRk
        have HV := Lib.hid hV
        have hp := hV.cells
        have hbel := hV.2.2.2.1
        rw [HB0.out] at hp
        obtain ⟨p1, p2, p3, p4, p5, p6⟩ := hp
        clear hRk HS0 HVD hV
        by_cases hlt : k < a.es.length
        · have hla := hlt
          have hlm : k < m.es.length := by rw [HL2.out]; exact hlt
          obtain ⟨g1, o1, rfl, hg1, hc1⟩ := Ints.cells (HN.out.below hbel) hlm
          obtain ⟨g2, o2, rfl, hg2, hc2⟩ := Eds.cells (HT.out.es.below hbel) hla
          have c1 := hc1 k hlm
          obtain ⟨d1, d2, d3⟩ := hc2 k hla
          have HFK := Lib.hid (HF.out k)
          have hva := HVA.out k hla
          have k0 : (0 : Int) ≤ (k : Int) := by omega
          have k1 : (k : Int) < (m.es.length : Int) := by omega
          have k1' : (k : Int) < (a.es.length : Int) := by omega
          have k2 : ((k : Int)).toNat = k := by omega
          by_cases hi : idxB (m.es.getD k 0) b.es.length = true
          case neg =>
            have hi' : idxB (m.es.getD k 0) b.es.length = false := by simpa using hi
            have hf6 : f k = 6 := by rw [HFK.out, if_pos hi']
            have HRR := Lib.hid (show R = 6 by rw [HRK.out, HHIT.out k hla (by omega), hf6])
            have hx := idxB_not.1 hi'
            clear hi hi' hf6 hc1 hc2 hla hlm hbel hva d1 d2 d3
            generalize m.es.getD k 0 = x at *
            by_cases hx0 : x < 0
            · have t3 : decide (x < 0) = true := decide_eq_true hx0
              clear hx hx0
              go_wp2_with fail
              go_quiet (fail)
              go_wp2_with fail
              go_ret
              exact ⟨ret_int (by rw [HRR.out]; rfl), below_draws HV.out.2.2.2.1 _⟩
            · have t3 : decide (x < 0) = false := decide_eq_false hx0
              have t4 : decide (x ≥ (b.es.length : Int)) = true := decide_eq_true (by omega)
              have hx5 : (b.es.length : Int) ≤ x := by omega
              have hx6 : ¬ x < (b.es.length : Int) := by omega
              clear hx hx0
              go_wp2_with fail
              go_quiet (fail)
              go_wp2_with fail
              go_ret
              exact ⟨ret_int (by rw [HRR.out]; rfl), below_draws HV.out.2.2.2.1 _⟩
          have hx := idxB_iff.1 hi
          obtain ⟨j, hj⟩ : ∃ j : Nat, m.es.getD k 0 = (j : Int) := ⟨(m.es.getD k 0).toNat, by omega⟩
          rw [hj] at c1 hx hi HFK
          rw [Int.toNat_natCast] at HFK
          have hjl : j < b.es.length := by omega
          obtain ⟨g3, o3, rfl, hg3, hc3⟩ := Eds.cells (HU.out.es.below hbel) hjl
          obtain ⟨e1, e2, e3⟩ := hc3 j hjl
          have j0 : (0 : Int) ≤ (j : Int) := by omega
          have j1 : (j : Int) < (b.es.length : Int) := by omega
          have j2 : ((j : Int)).toNat = j := by omega
          have t3 : decide ((j : Int) < 0) = false := decide_eq_false (by omega)
          have t4 : decide ((j : Int) ≥ (b.es.length : Int)) = false := decide_eq_false (by omega)
          have HLA := Lib.hid hla
          have HI := Lib.hid hi
          have HVK := Lib.hid hva
          clear hc1 hc2 hc3 hla hlm hx hj hi hva
          generalize a.es.getD k default = xa at *
          generalize b.es.getD j default = xb at *
          obtain ⟨ty, fr, tt⟩ := xa
          obtain ⟨ty2, fr2, tt2⟩ := xb
          dsimp only at *
          go_wp2_with fail
          go_quiet (fail)
          go_upto_region 21 with fail
          clear t3 t4
          generalize hwx : wr.drewN _ = wx
          have hbx : Below wr.heap.size wr wx := by rw [← hwx]; exact below_draws (Below.refl _ _) _
          have HVX := Lib.hid (HV.out.up hbx.drew)
          have hp := HVX.out.cells
          rw [HB0.out] at hp
          clear p1 p2 p3 p4 p5 p6
          obtain ⟨p1, p2, p3, p4, p5, p6⟩ := hp
          have cx : ∀ {g o : Nat} {v : Value}, wr.cell? ⟨g, o, none⟩ = some v → wx.drew.cell? ⟨g, o, none⟩ = some v := fun {g o v} h => (hbx.drew.cell (p := ⟨g, o, none⟩) (World.block_lt_of_cell? wr _ h)).trans h
          have HM := Lib.hid (show ∀ u, Below wx.drew.heap.size wx.drew u → (fun u : World => u.cell? ⟨w.heap.size, 1, none⟩ = some (.slice (some ⟨g2, o2, none⟩) a.es.length ce) ∧ u.cell? ⟨g2, o2 + k * 3, none⟩ = some (.int .i64 ty) ∧ u.cell? ⟨g2, o2 + k * 3 + 1, none⟩ = some (.int .i64 fr) ∧ u.cell? ⟨g2, o2 + k * 3 + 2, none⟩ = some (.int .i64 tt) ∧ u.cell? ⟨w.heap.size + 1, 1, none⟩ = some (.slice (some ⟨g3, o3, none⟩) b.es.length de) ∧ u.cell? ⟨w.heap.size + 1 + 1, 1, none⟩ = some (.slice (some ⟨g1, o1, none⟩) m.es.length me) ∧ u.cell? ⟨g1, o1 + k, none⟩ = some (.int .i64 (j : Int)) ∧ u.cell? ⟨g3, o3 + j * 3, none⟩ = some (.int .i64 ty2) ∧ u.cell? ⟨g3, o3 + j * 3 + 1, none⟩ = some (.int .i64 fr2) ∧ u.cell? ⟨g3, o3 + j * 3 + 2, none⟩ = some (.int .i64 tt2)) u from fun u hb => by
            have up : ∀ {g o : Nat} {v : Value}, wx.drew.cell? ⟨g, o, none⟩ = some v → u.cell? ⟨g, o, none⟩ = some v := fun {g o v} h => (hb.cell (p := ⟨g, o, none⟩) (World.block_lt_of_cell? _ _ h)).trans h
            exact ⟨up p2, up (cx d1), up (cx d2), up (cx d3), up p4, up p6, up (cx c1), up (cx e1), up (cx e2), up (cx e3)⟩)
          have HS := Lib.hid (HM.out _ (Below.refl _ _))
          clear hwx hbx p1 p2 p3 p4 p5 p6 c1 d1 d2 d3 e1 e2 e3 cx
          go_cut [11, 12] (fun u v wc => ∃ gx gy, u = .pointer (some ⟨gx, 0, none⟩) ∧ v = .pointer (some ⟨gy, 0, none⟩) ∧ wc.heap[gx]? = some (.cells #[.int .i64 ty, .int .i64 fr, .int .i64 tt] 65 (0, 0)) ∧ wc.heap[gy]? = some (.cells #[.int .i64 ty2, .int .i64 fr2, .int .i64 tt2] 65 (0, 0)) ∧
            VS B (.slice An a.ns.length cn) (.slice (some ⟨g2, o2, none⟩) a.es.length ce) (.slice Bn b.ns.length dn) (.slice (some ⟨g3, o3, none⟩) b.es.length de) (.slice Mn m.ns.length mn) (.slice (some ⟨g1, o1, none⟩) m.es.length me) w wc)
          case first =>
            go_wp2_with fail
            refine wp_region_noPanic ?_
            refine wp_region_held_drew (S := (fun u : World => u.cell? ⟨w.heap.size, 1, none⟩ = some (.slice (some ⟨g2, o2, none⟩) a.es.length ce) ∧ u.cell? ⟨g2, o2 + k * 3, none⟩ = some (.int .i64 ty) ∧ u.cell? ⟨g2, o2 + k * 3 + 1, none⟩ = some (.int .i64 fr) ∧ u.cell? ⟨g2, o2 + k * 3 + 2, none⟩ = some (.int .i64 tt) ∧ u.cell? ⟨w.heap.size + 1, 1, none⟩ = some (.slice (some ⟨g3, o3, none⟩) b.es.length de) ∧ u.cell? ⟨w.heap.size + 1 + 1, 1, none⟩ = some (.slice (some ⟨g1, o1, none⟩) m.es.length me) ∧ u.cell? ⟨g1, o1 + k, none⟩ = some (.int .i64 (j : Int)) ∧ u.cell? ⟨g3, o3 + j * 3, none⟩ = some (.int .i64 ty2) ∧ u.cell? ⟨g3, o3 + j * 3 + 1, none⟩ = some (.int .i64 fr2) ∧ u.cell? ⟨g3, o3 + j * 3 + 2, none⟩ = some (.int .i64 tt2))) (by kernel_rfl) (HS.out) (fun hHeld => ?_)
            have Bwd := Below.refl wx.drew.heap.size wx.drew
            generalize wx.drew = wd at *
            refine wpAnyH_take (i := 0) (v := ?_) (oper_at (r := _) rfl) (by kernel_rfl) (by kernel_rfl) (by kernel_rfl) (fun _ _ _ h => h) (Or.inl ⟨by rfl, ?_⟩) (by assumption) ?_
            rotate_left
            · intro w hSw; try dsimp only at hSw
              go_simp
              try with_reducible rfl
            try simp only [Act.put, List.setIfInBounds_toArray, List.set_cons_zero, List.set_cons_succ]
            refine wpAnyH_take (i := 1) (v := ?_) (oper_at (r := _) rfl) (by kernel_rfl) (by kernel_rfl) (by kernel_rfl) (fun _ _ _ h => h) (Or.inl ⟨by rfl, ?_⟩) (by assumption) ?_
            rotate_left
            · intro w hSw; try dsimp only at hSw
              go_simp
              try with_reducible rfl
            try simp only [Act.put, List.setIfInBounds_toArray, List.set_cons_zero, List.set_cons_succ]
            refine wpAnyH_take (i := 2) (v := ?_) (oper_at (r := _) rfl) (by kernel_rfl) (by kernel_rfl) (by kernel_rfl) (fun _ _ _ h => h) (Or.inl ⟨by rfl, ?_⟩) (by assumption) ?_
            rotate_left
            · intro w hSw; try dsimp only at hSw
              go_simp
              try with_reducible rfl
            try simp only [Act.put, List.setIfInBounds_toArray, List.set_cons_zero, List.set_cons_succ]
            refine wpAnyH_take (i := 3) (v := ?_) (oper_at (r := _) rfl) (by kernel_rfl) (by kernel_rfl) (by kernel_rfl) (fun _ _ _ h => h) (Or.inl ⟨by rfl, ?_⟩) (by assumption) ?_
            rotate_left
            · intro w hSw; try dsimp only at hSw
              go_simp
              try with_reducible rfl
            try simp only [Act.put, List.setIfInBounds_toArray, List.set_cons_zero, List.set_cons_succ]
            refine wpAnyH_take (i := 4) (v := ?_) (oper_at (r := _) rfl) (by kernel_rfl) (by kernel_rfl) (by kernel_rfl) (fun _ _ _ h => h) (Or.inl ⟨by rfl, ?_⟩) (by assumption) ?_
            rotate_left
            · intro w hSw; try dsimp only at hSw
              go_simp
              try with_reducible rfl
            try simp only [Act.put, List.setIfInBounds_toArray, List.set_cons_zero, List.set_cons_succ]
            refine wpAnyH_take (i := 5) (v := ?_) (oper_at (r := _) rfl) (by kernel_rfl) (by kernel_rfl) (by kernel_rfl) (fun _ _ _ h => h) (Or.inl ⟨by rfl, ?_⟩) (by assumption) ?_
            rotate_left
            · intro w hSw; try dsimp only at hSw
              go_simp
              try with_reducible rfl
            try simp only [Act.put, List.setIfInBounds_toArray, List.set_cons_zero, List.set_cons_succ]
            refine wpAnyH_take (i := 6) (v := ?_) (oper_at (r := _) rfl) (by kernel_rfl) (by kernel_rfl) (by kernel_rfl) (fun _ _ _ h => h) (Or.inl ⟨by rfl, ?_⟩) (by assumption) ?_
            rotate_left
            · intro w hSw; try dsimp only at hSw
              go_simp
              try with_reducible rfl
            try simp only [Act.put, List.setIfInBounds_toArray, List.set_cons_zero, List.set_cons_succ]
            refine wpAnyH_take (i := 7) (v := ?_) (oper_at (r := _) rfl) (by kernel_rfl) (by kernel_rfl) (by kernel_rfl) (fun _ _ _ h => h) (Or.inl ⟨by rfl, ?_⟩) (by assumption) ?_
            rotate_left
            · intro w hSw; try dsimp only at hSw
              go_simp
              try with_reducible rfl
            try simp only [Act.put, List.setIfInBounds_toArray, List.set_cons_zero, List.set_cons_succ]
            refine wpAnyH_take (i := 8) (v := ?_) (oper_at (r := _) rfl) (by kernel_rfl) (by kernel_rfl) (by kernel_rfl) (fun _ _ _ h => h) (Or.inl ⟨by rfl, ?_⟩) (by assumption) ?_
            rotate_left
            · intro w hSw; try dsimp only at hSw
              go_simp
              try with_reducible rfl
            try simp only [Act.put, List.setIfInBounds_toArray, List.set_cons_zero, List.set_cons_succ]
            refine wpAnyH_take (i := 9) (v := ?_) (oper_at (r := _) rfl) (by kernel_rfl) (by kernel_rfl) (by kernel_rfl) (fun _ _ _ h => h) (Or.inl ⟨by rfl, ?_⟩) (by assumption) ?_
            rotate_left
            · intro w hSw; try dsimp only at hSw
              go_simp
              try with_reducible rfl
            try simp only [Act.put, List.setIfInBounds_toArray, List.set_cons_zero, List.set_cons_succ]
            refine wpAnyH_take (i := 10) (v := ?_) (oper_at (r := _) rfl) (by kernel_rfl) (by kernel_rfl) (by kernel_rfl) (fun _ _ _ h => h) (Or.inl ⟨by rfl, ?_⟩) (by assumption) ?_
            rotate_left
            · intro w hSw; try dsimp only at hSw
              go_simp
              try with_reducible rfl
            try simp only [Act.put, List.setIfInBounds_toArray, List.set_cons_zero, List.set_cons_succ]
            refine wpAnyH_take (i := 11) (v := ?_) (oper_at (r := _) rfl) (by kernel_rfl) (by kernel_rfl) (by kernel_rfl) (fun _ _ _ h => h) (Or.inl ⟨by rfl, ?_⟩) (by assumption) ?_
            rotate_left
            · intro w hSw; try dsimp only at hSw
              go_simp
              try with_reducible rfl
            try simp only [Act.put, List.setIfInBounds_toArray, List.set_cons_zero, List.set_cons_succ]
            refine wpAnyH_take (i := 12) (v := ?_) (oper_at (r := _) rfl) (by kernel_rfl) (by kernel_rfl) (by kernel_rfl) (fun _ _ _ h => h) (Or.inl ⟨by rfl, ?_⟩) (by assumption) ?_
            rotate_left
            · intro w hSw; try dsimp only at hSw
              go_simp
              try with_reducible rfl
            try simp only [Act.put, List.setIfInBounds_toArray, List.set_cons_zero, List.set_cons_succ]
            refine wpAnyH_take (i := 13) (v := ?_) (oper_at (r := _) rfl) (by kernel_rfl) (by kernel_rfl) (by kernel_rfl) (fun _ _ _ h => h) (Or.inl ⟨by rfl, ?_⟩) (by assumption) ?_
            rotate_left
            · intro w hSw; try dsimp only at hSw
              go_simp
              try with_reducible rfl
            try simp only [Act.put, List.setIfInBounds_toArray, List.set_cons_zero, List.set_cons_succ]
            refine wpAnyH_ready (rs := [14, 15]) (by kernel_rfl) (by simp) ?_
            refine (AllReadyH.cons (oper_at (r := _) rfl) (fun K hK => ?_) (AllReadyH.cons (oper_at (r := _) rfl) (fun K hK => ?_) AllReadyH.nil))
            · skip
              obtain ⟨gx, hgx⟩ : ∃ g, g = wd.heap.size := ⟨_, rfl⟩
              have lgx : wd.heap.size ≤ gx := by rw [hgx]; exact Bwd.size
              have BW1 := (Bwd).alloc (Bwd).size (.cells #[.int .i64 0, .int .i64 0, .int .i64 0] 65)
              have XW1 := heap_alloc_new wd (.cells #[.int .i64 0, .int .i64 0, .int .i64 0] 65)
              rw [← hgx] at XW1
              go_simp
              refine hK.out _ _ (HM.out _ BW1) (fun _ => ?_)
              clear hK K
              try simp only [Act.put, List.setIfInBounds_toArray, List.set_cons_zero, List.set_cons_succ]
              generalize wd.alloc (.cells #[.int .i64 0, .int .i64 0, .int .i64 0] 65) = W1 at *
              rw [← hgx]
              clear hgx
              refine wpAnyH_ready (rs := [15]) (by kernel_rfl) (by simp) ?_
              refine (AllReadyH.cons (oper_at (r := _) rfl) (fun K hK => ?_) AllReadyH.nil)
              · skip
                obtain ⟨gy, hgy⟩ : ∃ g, g = W1.heap.size := ⟨_, rfl⟩
                have lgy : wd.heap.size ≤ gy := by rw [hgy]; exact BW1.size
                have BW2 := (BW1).alloc (BW1).size (.cells #[.int .i64 0, .int .i64 0, .int .i64 0] 65)
                have YW2 := heap_alloc_new W1 (.cells #[.int .i64 0, .int .i64 0, .int .i64 0] 65)
                rw [← hgy] at YW2
                have XW2 := (Below.heap_alloc W1 (.cells #[.int .i64 0, .int .i64 0, .int .i64 0] 65) _ (heap_lt XW1)).trans XW1
                have hne : gx ≠ gy := by have := heap_lt XW1; omega
                go_simp
                refine hK.out _ _ (HM.out _ BW2) (fun _ => ?_)
                clear hK K
                try simp only [Act.put, List.setIfInBounds_toArray, List.set_cons_zero, List.set_cons_succ]
                generalize W1.alloc (.cells #[.int .i64 0, .int .i64 0, .int .i64 0] 65) = W2 at *
                rw [← hgy]
                clear hgy
                refine wpAnyH_ready (rs := [16]) (by kernel_rfl) (by simp) ?_
                refine (AllReadyH.cons (oper_at (r := _) rfl) (fun K hK => ?_) AllReadyH.nil)
                · skip
                  obtain ⟨s0, s1, s2⟩ := cell3 XW2
                  have f0 : W2.frozen? ⟨gx, 0, none⟩ = false := frozen_of_row _ _ _ _ _ XW2
                  have f1 : W2.frozen? ⟨gx, 1, none⟩ = false := frozen_of_row _ _ _ _ _ XW2
                  have f2 : W2.frozen? ⟨gx, 2, none⟩ = false := frozen_of_row _ _ _ _ _ XW2
                  have XW3 := set3R (x := .int .i64 ty) (y := .int .i64 fr) (z := .int .i64 tt) XW2
                  have YW3 := (set3_other (W := W2) (g := gx) (k := gy) (.int .i64 ty) (.int .i64 fr) (.int .i64 tt) (by omega)).trans YW2
                  have BW3 := ((BW2.setCell (p := ⟨gx, 0, none⟩) lgx (.int .i64 ty)).setCell (p := ⟨gx, 1, none⟩) lgx (.int .i64 fr)).setCell (p := ⟨gx, 2, none⟩) lgx (.int .i64 tt)
                  go_simp
                  refine hK.out _ _ (HM.out _ BW3) (fun _ => ?_)
                  clear hK K
                  try simp only [Act.put, List.setIfInBounds_toArray, List.set_cons_zero, List.set_cons_succ]
                  clear s0 s1 s2 f0 f1 f2
                  generalize ((W2.setCell ⟨gx, 0, none⟩ (.int .i64 ty)).setCell ⟨gx, 1, none⟩ (.int .i64 fr)).setCell ⟨gx, 2, none⟩ (.int .i64 tt) = W3 at *
                  refine wpAnyH_ready (rs := [17]) (by kernel_rfl) (by simp) ?_
                  refine (AllReadyH.cons (oper_at (r := _) rfl) (fun K hK => ?_) AllReadyH.nil)
                  · skip
                    obtain ⟨s0, s1, s2⟩ := cell3 YW3
                    have f0 : W3.frozen? ⟨gy, 0, none⟩ = false := frozen_of_row _ _ _ _ _ YW3
                    have f1 : W3.frozen? ⟨gy, 1, none⟩ = false := frozen_of_row _ _ _ _ _ YW3
                    have f2 : W3.frozen? ⟨gy, 2, none⟩ = false := frozen_of_row _ _ _ _ _ YW3
                    have YW4 := set3R (x := .int .i64 ty2) (y := .int .i64 fr2) (z := .int .i64 tt2) YW3
                    have XW4 := (set3_other (W := W3) (g := gy) (k := gx) (.int .i64 ty2) (.int .i64 fr2) (.int .i64 tt2) (by omega)).trans XW3
                    have BW4 := ((BW3.setCell (p := ⟨gy, 0, none⟩) lgy (.int .i64 ty2)).setCell (p := ⟨gy, 1, none⟩) lgy (.int .i64 fr2)).setCell (p := ⟨gy, 2, none⟩) lgy (.int .i64 tt2)
                    go_simp
                    refine hK.out _ _ (HM.out _ BW4) (fun _ => ?_)
                    clear hK K
                    try simp only [Act.put, List.setIfInBounds_toArray, List.set_cons_zero, List.set_cons_succ]
                    clear s0 s1 s2 f0 f1 f2
                    generalize ((W3.setCell ⟨gy, 0, none⟩ (.int .i64 ty2)).setCell ⟨gy, 1, none⟩ (.int .i64 fr2)).setCell ⟨gy, 2, none⟩ (.int .i64 tt2) = W4 at *
                    refine wpAnyH_done (by kernel_rfl) ?_ _
                    refine NoPanic.normal ?_
                    go_wp2_with fail
                    go_meet
                    exact ⟨gx, gy, rfl, rfl, XW4, YW4, HVX.out.up BW4⟩
            · skip
              obtain ⟨gy, hgy⟩ : ∃ g, g = wd.heap.size := ⟨_, rfl⟩
              have lgy : wd.heap.size ≤ gy := by rw [hgy]; exact Bwd.size
              have BW5 := (Bwd).alloc (Bwd).size (.cells #[.int .i64 0, .int .i64 0, .int .i64 0] 65)
              have YW5 := heap_alloc_new wd (.cells #[.int .i64 0, .int .i64 0, .int .i64 0] 65)
              rw [← hgy] at YW5
              go_simp
              refine hK.out _ _ (HM.out _ BW5) (fun _ => ?_)
              clear hK K
              try simp only [Act.put, List.setIfInBounds_toArray, List.set_cons_zero, List.set_cons_succ]
              generalize wd.alloc (.cells #[.int .i64 0, .int .i64 0, .int .i64 0] 65) = W5 at *
              rw [← hgy]
              clear hgy
              refine wpAnyH_ready (rs := [14]) (by kernel_rfl) (by simp) ?_
              refine (AllReadyH.cons (oper_at (r := _) rfl) (fun K hK => ?_) AllReadyH.nil)
              · skip
                obtain ⟨gx, hgx⟩ : ∃ g, g = W5.heap.size := ⟨_, rfl⟩
                have lgx : wd.heap.size ≤ gx := by rw [hgx]; exact BW5.size
                have BW6 := (BW5).alloc (BW5).size (.cells #[.int .i64 0, .int .i64 0, .int .i64 0] 65)
                have XW6 := heap_alloc_new W5 (.cells #[.int .i64 0, .int .i64 0, .int .i64 0] 65)
                rw [← hgx] at XW6
                have YW6 := (Below.heap_alloc W5 (.cells #[.int .i64 0, .int .i64 0, .int .i64 0] 65) _ (heap_lt YW5)).trans YW5
                have hne : gx ≠ gy := by have := heap_lt YW5; omega
                go_simp
                refine hK.out _ _ (HM.out _ BW6) (fun _ => ?_)
                clear hK K
                try simp only [Act.put, List.setIfInBounds_toArray, List.set_cons_zero, List.set_cons_succ]
                generalize W5.alloc (.cells #[.int .i64 0, .int .i64 0, .int .i64 0] 65) = W6 at *
                rw [← hgx]
                clear hgx
                refine wpAnyH_ready (rs := [16]) (by kernel_rfl) (by simp) ?_
                refine (AllReadyH.cons (oper_at (r := _) rfl) (fun K hK => ?_) AllReadyH.nil)
                · skip
                  obtain ⟨s0, s1, s2⟩ := cell3 XW6
                  have f0 : W6.frozen? ⟨gx, 0, none⟩ = false := frozen_of_row _ _ _ _ _ XW6
                  have f1 : W6.frozen? ⟨gx, 1, none⟩ = false := frozen_of_row _ _ _ _ _ XW6
                  have f2 : W6.frozen? ⟨gx, 2, none⟩ = false := frozen_of_row _ _ _ _ _ XW6
                  have XW7 := set3R (x := .int .i64 ty) (y := .int .i64 fr) (z := .int .i64 tt) XW6
                  have YW7 := (set3_other (W := W6) (g := gx) (k := gy) (.int .i64 ty) (.int .i64 fr) (.int .i64 tt) (by omega)).trans YW6
                  have BW7 := ((BW6.setCell (p := ⟨gx, 0, none⟩) lgx (.int .i64 ty)).setCell (p := ⟨gx, 1, none⟩) lgx (.int .i64 fr)).setCell (p := ⟨gx, 2, none⟩) lgx (.int .i64 tt)
                  go_simp
                  refine hK.out _ _ (HM.out _ BW7) (fun _ => ?_)
                  clear hK K
                  try simp only [Act.put, List.setIfInBounds_toArray, List.set_cons_zero, List.set_cons_succ]
                  clear s0 s1 s2 f0 f1 f2
                  generalize ((W6.setCell ⟨gx, 0, none⟩ (.int .i64 ty)).setCell ⟨gx, 1, none⟩ (.int .i64 fr)).setCell ⟨gx, 2, none⟩ (.int .i64 tt) = W7 at *
                  refine wpAnyH_ready (rs := [17]) (by kernel_rfl) (by simp) ?_
                  refine (AllReadyH.cons (oper_at (r := _) rfl) (fun K hK => ?_) AllReadyH.nil)
                  · skip
                    obtain ⟨s0, s1, s2⟩ := cell3 YW7
                    have f0 : W7.frozen? ⟨gy, 0, none⟩ = false := frozen_of_row _ _ _ _ _ YW7
                    have f1 : W7.frozen? ⟨gy, 1, none⟩ = false := frozen_of_row _ _ _ _ _ YW7
                    have f2 : W7.frozen? ⟨gy, 2, none⟩ = false := frozen_of_row _ _ _ _ _ YW7
                    have YW8 := set3R (x := .int .i64 ty2) (y := .int .i64 fr2) (z := .int .i64 tt2) YW7
                    have XW8 := (set3_other (W := W7) (g := gy) (k := gx) (.int .i64 ty2) (.int .i64 fr2) (.int .i64 tt2) (by omega)).trans XW7
                    have BW8 := ((BW7.setCell (p := ⟨gy, 0, none⟩) lgy (.int .i64 ty2)).setCell (p := ⟨gy, 1, none⟩) lgy (.int .i64 fr2)).setCell (p := ⟨gy, 2, none⟩) lgy (.int .i64 tt2)
                    go_simp
                    refine hK.out _ _ (HM.out _ BW8) (fun _ => ?_)
                    clear hK K
                    try simp only [Act.put, List.setIfInBounds_toArray, List.set_cons_zero, List.set_cons_succ]
                    clear s0 s1 s2 f0 f1 f2
                    generalize ((W7.setCell ⟨gy, 0, none⟩ (.int .i64 ty2)).setCell ⟨gy, 1, none⟩ (.int .i64 fr2)).setCell ⟨gy, 2, none⟩ (.int .i64 tt2) = W8 at *
                    refine wpAnyH_done (by kernel_rfl) ?_ _
                    refine NoPanic.normal ?_
                    go_wp2_with fail
                    go_meet
                    exact ⟨gx, gy, rfl, rfl, XW8, YW8, HVX.out.up BW8⟩
          case rest =>
            obtain ⟨gx, gy, rfl, rfl, hX, hY, hV⟩ := hcut
            have HV5 := Lib.hid hV
            have hp := hV.cells
            have hbel2 := hV.2.2.2.1
            rw [HB0.out] at hp
            obtain ⟨p1, p2, p3, p4, p5, p6⟩ := hp
            obtain ⟨x0, x1, x2⟩ := cell3 hX
            obtain ⟨y0, y1, y2⟩ := cell3 hY
            have HM2 : Hid (a.es.length - ((k : Int) + 1).toNat < a.es.length - ((k : Int)).toNat) := Lib.hid (by omega)
            by_cases he : ty = ty2
            case neg =>
              have hf : f k = 13 := by rw [HFK.out, if_neg (by rw [HI.out]; simp), if_pos he]
              have HRR := Lib.hid (show R = 13 by rw [HRK.out, HHIT.out k HLA.out (by omega), hf])
              have t : (ty != ty2) = true := bne_iff_ne.2 he
              clear hf he hbel hbel2 hX hY hV
              go_wp2_with fail
              go_ret
              exact ⟨ret_int (by rw [HRR.out]; rfl), HV5.out.2.2.2.1⟩
            subst he
            obtain ⟨F, hF⟩ : ∃ F : Nat, fr = (F : Int) := ⟨fr.toNat, by have := HVK.out; omega⟩
            obtain ⟨T, hT⟩ : ∃ T : Nat, tt = (T : Int) := ⟨tt.toNat, by have := HVK.out; omega⟩
            subst hF hT
            have hFl : F < m.ns.length := by have := HVK.out; have := HL1.out; omega
            have hTl : T < m.ns.length := by have := HVK.out; have := HL1.out; omega
            obtain ⟨g4, o4, rfl, hg4, hc4⟩ := Ints.cells (HM0.out.below hbel2) hFl
            have m1 := hc4 F hFl
            have m2 := hc4 T hTl
            rw [Int.toNat_natCast, Int.toNat_natCast] at HFK
            have F0 : (0 : Int) ≤ (F : Int) := by omega
            have F1 : (F : Int) < (m.ns.length : Int) := by omega
            have F2 : ((F : Int)).toNat = F := by omega
            have T0 : (0 : Int) ≤ (T : Int) := by omega
            have T1 : (T : Int) < (m.ns.length : Int) := by omega
            have T2 : ((T : Int)).toNat = T := by omega
            have t : (ty != ty) = false := bne_self_eq_false _
            generalize m.ns.getD F 0 = z1 at *
            generalize m.ns.getD T 0 = z2 at *
            by_cases h5 : z1 = fr2
            · by_cases h6 : z2 = tt2
              · have hf : f k = 0 := by rw [HFK.out, if_neg (by rw [HI.out]; simp), if_neg (fun h => h rfl), if_neg (fun h => h.elim (fun h => h h5) (fun h => h h6))]
                have HE := Lib.hid (show R = fstN f (k + 1) (a.es.length - (k + 1)) by rw [HRK.out, HPASS.out k HLA.out hf])
                have t5 : (z1 != fr2) = false := by rw [h5]; exact bne_self_eq_false _
                have t6 : (z2 != tt2) = false := by rw [h6]; exact bne_self_eq_false _
                clear hf h5 h6 hbel hbel2 hX hY hV hc4
                go_wp2_with fail
                go_quiet (fail)
                go_wp2_with fail
                go_roundw
                case rel => exact ⟨k + 1, HLA.out, by go_num, HE.out, HV5.out.up (below_draws (Below.refl _ _) _)⟩
                case measure => exact HM2.out
              · have hf : f k = 11 := by rw [HFK.out, if_neg (by rw [HI.out]; simp), if_neg (fun h => h rfl), if_pos (.inr h6)]
                have HRR := Lib.hid (show R = 11 by rw [HRK.out, HHIT.out k HLA.out (by omega), hf])
                have t5 : (z1 != fr2) = false := by rw [h5]; exact bne_self_eq_false _
                have t6 : (z2 != tt2) = true := bne_iff_ne.2 h6
                clear hf h5 h6 hbel hbel2 hX hY hV hc4
                go_wp2_with fail
                go_quiet (fail)
                go_wp2_with fail
                go_ret
                exact ⟨ret_int (by rw [HRR.out]; rfl), below_draws HV5.out.2.2.2.1 _⟩
            · have hf : f k = 11 := by rw [HFK.out, if_neg (by rw [HI.out]; simp), if_neg (fun h => h rfl), if_pos (.inl h5)]
              have HRR := Lib.hid (show R = 11 by rw [HRK.out, HHIT.out k HLA.out (by omega), hf])
              have t5 : (z1 != fr2) = true := bne_iff_ne.2 h5
              clear hf h5 hbel hbel2 hX hY hV hc4
              go_wp2_with fail
              go_quiet (fail)
              go_wp2_with fail
              go_ret
              exact ⟨ret_int (by rw [HRR.out]; rfl), below_draws HV5.out.2.2.2.1 _⟩
        · obtain rfl : k = a.es.length := by omega
          have HRR := Lib.hid (show R = 0 by rw [HRK.out]; exact HEND.out _ (Nat.le_refl _))
          clear hbel
          go_wp2_with fail
          go_ret
          exact ⟨ret_int (by rw [HRR.out]; rfl), HV.out.2.2.2.1⟩

end Go.Proofs.YtaeelanbkdkppaaDoor

/-
  Few, Same, SameAll, Of, Then, Identity, Compose, Injective, Surjective, Inverse of the reference. Printed by mkrops.py.
-/
namespace Go.Proofs.YtaeelanbkdkppaaDoor
open Go.RowKit Go.Shelf

set_option maxHeartbeats 1000000 in
theorem sameR6_any (a b : Mo) (An : Option Addr) (cn : Nat) (Ae : Option Addr) (ce : Nat) (Bn : Option Addr) (dn : Nat) (Be : Option Addr) (de : Nat) (w : World) (l1 : a.ns.length ≤ maxLen) (l2 : a.es.length ≤ maxLen)
    (ha : Ints w w.heap.size An a.ns) (ha2 : Ints w w.heap.size Ae a.es) (hb : Ints w w.heap.size Bn b.ns) (hb2 : Ints w w.heap.size Be b.es) :
    Calls Tryd.prog 23 #[gval An a.ns.length cn Ae a.es.length ce, gval Bn b.ns.length dn Be b.es.length de] w fun e w' => e = .returned (.bool (decide (a = b))) ∧ Below w.heap.size w w' := by
  have HB0 : Hid (∀ o o', Below w.heap.size w ((w.alloc o).alloc o')) := Lib.hid fun o o' => ((Below.refl _ _).alloc (Nat.le_refl _) _).alloc (by simp) _
  have H1 := Lib.hid (fun u (hu : Below w.heap.size w u) => sameInts2_any a.ns b.ns An Bn w.heap.size w.heap.size cn dn u l1 (Reads.below ha hu) (Reads.below hb hu))
  have H2 := Lib.hid (fun u (hu : Below w.heap.size w u) => sameInts2_any a.es b.es Ae Be w.heap.size w.heap.size ce de u l2 (Reads.below ha2 hu) (Reads.below hb2 hu))
  have HX := Lib.hid (mo_eq a b)
  clear ha hb ha2 hb2
  generalize decide (a = b) = z at HX ⊢
  generalize decide (a.ns = b.ns) = z1 at H1 HX
  generalize decide (a.es = b.es) = z2 at H2 HX
  go_enter Tryd.func23, Tryd.ntmps23
  go_wp2_with fail
  refine (H1.out _ (HB0.out _ _)).mono ?_
  rintro e w1 ⟨rfl, hb1⟩
  obtain ⟨b0, b1, hsz⟩ := boxes2 hb1
  obtain ⟨c0, c1⟩ := cell2 b0
  obtain ⟨c2, c3⟩ := cell2 b1
  have HB := Lib.hid ((HB0.out _ _).trans (hb1.mono (by simp; omega)))
  clear b0 b1 hb1
  cases z1
  · go_wp2_with fail
    go_ret
    exact ⟨ret_bool (by rw [HX.out]; rfl), HB.out⟩
  · go_wp2_with fail
    refine (H2.out _ HB.out).mono ?_
    rintro e w2 ⟨rfl, hb2⟩
    have HB2 := Lib.hid (HB.out.trans (hb2.mono (by omega)))
    clear hb2
    go_wp2_with fail
    go_ret
    exact ⟨ret_bool (by rw [HX.out]; rfl), HB2.out⟩


def fewM (m : Mo) (n : Nat) : Bool := decide (m.ns.length + m.es.length ≤ n)
set_option maxHeartbeats 1000000 in
theorem fewM_any (m : Mo) (n : Nat) (Mn : Option Addr) (mn : Nat) (Me : Option Addr) (me : Nat) (w : World) (h1 : m.ns.length ≤ 1152921504606846976) (h2 : m.es.length ≤ 1152921504606846976) :
    Calls Tryd.prog 20 #[gval Mn m.ns.length mn Me m.es.length me, .int .i64 (n : Int)] w fun e w' => e = .returned (.bool (fewM m n)) ∧ Below w.heap.size w w' := by
  have HW : Hid (decide ((m.ns.length : Int) + (m.es.length : Int) ≤ (n : Int)) = fewM m n) := by
    unfold fewM
    exact Lib.hid (by by_cases h : m.ns.length + m.es.length ≤ n
                      · rw [decide_eq_true h]; exact decide_eq_true (by omega)
                      · rw [decide_eq_false h]; exact decide_eq_false (by omega))
  generalize fewM m n = R at *
  go_enter Tryd.func20, Tryd.ntmps20
  go_wp2_with fail
  go_ret
  exact ⟨ret_bool HW.out, (Below.refl _ _).alloc (Nat.le_refl _) _⟩

theorem pts_ext {ps qs : List Mo} (hl : ps.length = qs.length) (h : ∀ i (h1 : i < ps.length) (h2 : i < qs.length), ps[i] = qs[i]) : ps = qs := List.ext_getElem hl h
set_option maxRecDepth 100000 in
set_option maxHeartbeats 4000000 in
theorem sameAll_any (ps qs : List Mo) (A A' : Option Addr) (c c' : Nat) (w : World) (hl : ps.length ≤ 3000) (hs : ∀ x ∈ ps, x.ns.length ≤ 1000 ∧ x.es.length ≤ 1000) (hA : Pts w w.heap.size A ps) (hB : Pts w w.heap.size A' qs) :
    Calls Tryd.prog 33 #[.slice A ps.length c, .slice A' qs.length c'] w fun e w' => e = .returned (.bool (decide (ps = qs))) ∧ Below w.heap.size w w' := by
  have HA := Lib.hid hA
  have HB := Lib.hid hB
  have HS := Lib.hid hs
  clear hA hB hs
  by_cases hlen : ps.length = qs.length
  case neg =>
    have t1 : ((ps.length : Int) != (qs.length : Int)) = true := bne_iff_ne.2 (by omega)
    have HR := Lib.hid (show decide (ps = qs) = false from decide_eq_false fun h => hlen (by rw [h]))
    clear hlen
    go_enter Tryd.func33, Tryd.ntmps33
    go_wp2_with fail
    go_ret
    exact ⟨ret_bool (by rw [HR.out]), Below.refl _ _⟩
  have t1 : ((ps.length : Int) != (qs.length : Int)) = false := by rw [hlen]; exact bne_self_eq_false _
  have HLN := Lib.hid hlen
  have HX := Lib.hid (fun h => pts_ext (ps := ps) (qs := qs) hlen h)
  have HD : Hid (ps = qs → decide (ps = qs) = true) := Lib.hid fun h => decide_eq_true h
  have HE : Hid (∀ i (h1 : i < ps.length) (h2 : i < qs.length), ps[i] ≠ qs[i] → decide (ps = qs) = false) := Lib.hid fun i h1 h2 hne => decide_eq_false fun h => hne (by simp only [h])
  generalize decide (ps = qs) = R at *
  clear hlen
  go_enter Tryd.func33, Tryd.ntmps33
  go_wp2_with fail
  clear t1
  go_loopw [5] (fun vi wr => ∃ k : Nat, k ≤ ps.length ∧ vi = .int .i64 k ∧ Below w.heap.size w wr ∧ ∀ i (h1 : i < ps.length) (h2 : i < qs.length), i < k → ps[i] = qs[i]) (fun vi _ => ps.length - (intOf vi).toNat)
  case atStart => exact ⟨0, Nat.zero_le _, rfl, Below.refl _ _, fun i h1 h2 h => by omega⟩
  case round =>
    obtain ⟨k, hk, rfl, hbel, hsm⟩ := hrel
    have HBL := Lib.hid hbel
    have HSM := Lib.hid hsm
    clear hsm
    by_cases hlt : k < ps.length
    · have hlq : k < qs.length := by rw [← HLN.out]; exact hlt
      obtain ⟨b, off, cs, rfl, hb, hr, hc⟩ := DReads.at (HA.out.up hbel) hlt
      obtain ⟨b', off', cs', rfl, hb', hr', hc'⟩ := DReads.at (HB.out.up hbel) hlq
      obtain ⟨m1, m2⟩ := HS.out _ (List.getElem_mem hlt)
      obtain ⟨A1, c1, A2, c2, rfl, r1, r2⟩ := hr
      obtain ⟨B1, d1, B2, d2, rfl, q1, q2⟩ := hr'
      have k0 := hc 0 _ rfl
      have k1 := hc 1 _ rfl
      have k2 := hc' 0 _ rfl
      have k3 := hc' 1 _ rfl
      have HEK := Lib.hid (HE.out k hlt hlq)
      have HNX : Hid (ps[k] = qs[k] → ∀ i (h1 : i < ps.length) (h2 : i < qs.length), i < k + 1 → ps[i] = qs[i]) := Lib.hid fun he i h1 h2 h => by
        by_cases e : i = k
        · subst e; exact he
        · exact HSM.out i h1 h2 (by omega)
      generalize ps[k] = x at *
      generalize qs[k] = y at *
      simp only [show DPart.size = 2 from rfl, Nat.add_zero] at k0 k1 k2 k3
      have hMD : ∀ W, Below wr.heap.size wr W → (fun u : World => u.cell? ⟨b, off + k * 2, none⟩ = some (.slice A1 x.ns.length c1) ∧ u.cell? ⟨b, off + k * 2 + 1, none⟩ = some (.slice A2 x.es.length c2) ∧ u.cell? ⟨b', off' + k * 2, none⟩ = some (.slice B1 y.ns.length d1) ∧ u.cell? ⟨b', off' + k * 2 + 1, none⟩ = some (.slice B2 y.es.length d2)) W := fun W h => ⟨cell_up h k0, cell_up h k1, cell_up h k2, cell_up h k3⟩
      have HM := Lib.hid hMD
      have HC := Lib.hid (fun W (h : Below wr.heap.size wr W) => sameR6_any x y A1 c1 A2 c2 B1 d1 B2 d2 W (by unfold maxLen; omega) (by unfold maxLen; omega) (r1.up h) (r2.up h) (q1.up h) (q2.up h))
      have HS1 := Lib.hid (hMD _ (below_d wr))
      have hk0 : (0 : Int) ≤ (k : Int) := by omega
      have hk1 : (k : Int) < (ps.length : Int) := by omega
      have hk1' : (k : Int) < (qs.length : Int) := by omega
      have hk2 : ((k : Int)).toNat = k := by omega
      have HLT := Lib.hid hlt
      have HM2 : Hid (ps.length - ((k : Int) + 1).toNat < ps.length - ((k : Int)).toNat) := Lib.hid (by omega)
      clear hc hc' r1 r2 q1 q2 k0 k1 k2 k3 m1 m2 hMD hbel
      go_wp2_with fail
      refine wp_region_noPanic ?_
      refine wp_region_held_drew (S := (fun u : World => u.cell? ⟨b, off + k * 2, none⟩ = some (.slice A1 x.ns.length c1) ∧ u.cell? ⟨b, off + k * 2 + 1, none⟩ = some (.slice A2 x.es.length c2) ∧ u.cell? ⟨b', off' + k * 2, none⟩ = some (.slice B1 y.ns.length d1) ∧ u.cell? ⟨b', off' + k * 2 + 1, none⟩ = some (.slice B2 y.es.length d2))) (by kernel_rfl) (HS1.out) (fun hHeld => ?_)
      refine wpAnyH_take (i := 0) (v := ?_) (oper_at (r := _) rfl) (by kernel_rfl) (by kernel_rfl) (by kernel_rfl) (fun _ _ _ h => h) (Or.inl ⟨by rfl, ?_⟩) (by assumption) ?_
      rotate_left
      · intro w hSw; try dsimp only at hSw
        go_simp
        try with_reducible rfl
      try simp only [Act.put, List.setIfInBounds_toArray, List.set_cons_zero, List.set_cons_succ]
      refine wpAnyH_take (i := 1) (v := ?_) (oper_at (r := _) rfl) (by kernel_rfl) (by kernel_rfl) (by kernel_rfl) (fun _ _ _ h => h) (Or.inl ⟨by rfl, ?_⟩) (by assumption) ?_
      rotate_left
      · intro w hSw; try dsimp only at hSw
        go_simp
        try with_reducible rfl
      try simp only [Act.put, List.setIfInBounds_toArray, List.set_cons_zero, List.set_cons_succ]
      refine wpAnyH_take (i := 2) (v := ?_) (oper_at (r := _) rfl) (by kernel_rfl) (by kernel_rfl) (by kernel_rfl) (fun _ _ _ h => h) (Or.inl ⟨by rfl, ?_⟩) (by assumption) ?_
      rotate_left
      · intro w hSw; try dsimp only at hSw
        go_simp
        try with_reducible rfl
      try simp only [Act.put, List.setIfInBounds_toArray, List.set_cons_zero, List.set_cons_succ]
      refine wpAnyH_take (i := 3) (v := ?_) (oper_at (r := _) rfl) (by kernel_rfl) (by kernel_rfl) (by kernel_rfl) (fun _ _ _ h => h) (Or.inl ⟨by rfl, ?_⟩) (by assumption) ?_
      rotate_left
      · intro w hSw; try dsimp only at hSw
        go_simp
        try with_reducible rfl
      try simp only [Act.put, List.setIfInBounds_toArray, List.set_cons_zero, List.set_cons_succ]
      refine wpAnyH_take (i := 4) (v := ?_) (oper_at (r := _) rfl) (by kernel_rfl) (by kernel_rfl) (by kernel_rfl) (fun _ _ _ h => h) (Or.inl ⟨by rfl, ?_⟩) (by assumption) ?_
      rotate_left
      · intro w hSw; try dsimp only at hSw
        go_simp
        try with_reducible rfl
      try simp only [Act.put, List.setIfInBounds_toArray, List.set_cons_zero, List.set_cons_succ]
      refine wpAnyH_take (i := 5) (v := ?_) (oper_at (r := _) rfl) (by kernel_rfl) (by kernel_rfl) (by kernel_rfl) (fun _ _ _ h => h) (Or.inl ⟨by rfl, ?_⟩) (by assumption) ?_
      rotate_left
      · intro w hSw; try dsimp only at hSw
        go_simp
        try with_reducible rfl
      try simp only [Act.put, List.setIfInBounds_toArray, List.set_cons_zero, List.set_cons_succ]
      refine wpAnyH_take (i := 6) (v := ?_) (oper_at (r := _) rfl) (by kernel_rfl) (by kernel_rfl) (by kernel_rfl) (fun _ _ _ h => h) (Or.inl ⟨by rfl, ?_⟩) (by assumption) ?_
      rotate_left
      · intro w hSw; try dsimp only at hSw
        go_simp
        try with_reducible rfl
      try simp only [Act.put, List.setIfInBounds_toArray, List.set_cons_zero, List.set_cons_succ]
      refine wpAnyH_take (i := 7) (v := ?_) (oper_at (r := _) rfl) (by kernel_rfl) (by kernel_rfl) (by kernel_rfl) (fun _ _ _ h => h) (Or.inl ⟨by rfl, ?_⟩) (by assumption) ?_
      rotate_left
      · intro w hSw; try dsimp only at hSw
        go_simp
        try with_reducible rfl
      try simp only [Act.put, List.setIfInBounds_toArray, List.set_cons_zero, List.set_cons_succ]
      refine wpAnyH_ready (rs := [8]) (by kernel_rfl) (by simp) ?_
      refine AllReadyH.cons (oper_at (r := _) rfl) (fun K hK => ?_) AllReadyH.nil
      go_simp
      refine (HC.out _ (below_d wr)).mono ?_
      rintro e w3 ⟨rfl, hb3⟩
      have hb4 : Below wr.heap.size wr w3 := (below_d wr).trans hb3
      have HS3 := Lib.hid (HM.out _ hb4)
      have HB4 := Lib.hid (HBL.out.trans (hb4.mono HBL.out.size))
      clear hb3 hb4
      go_wp2_with fail
      refine hK.out _ _ (HS3.out) (fun _ => ?_)
      clear hK K
      try simp only [Act.put, List.setIfInBounds_toArray, List.set_cons_zero, List.set_cons_succ]
      by_cases he : x = y
      · have t : decide (x = y) = true := decide_eq_true he
        have HN2 := Lib.hid (HNX.out he)
        rw [t]
        clear t he
        refine wpAnyH_take (i := 9) (v := ?_) (oper_at (r := _) rfl) (by kernel_rfl) (by kernel_rfl) (by kernel_rfl) (fun _ _ _ h => h) (Or.inl ⟨by rfl, ?_⟩) (by assumption) ?_
        rotate_left
        · intro w hSw; try dsimp only at hSw
          go_simp
          try with_reducible rfl
        try simp only [Act.put, List.setIfInBounds_toArray, List.set_cons_zero, List.set_cons_succ]
        refine wpAnyH_done (by kernel_rfl) ?_ _
        refine NoPanic.normal ?_
        go_wp2_with fail
        go_roundw
        case rel => exact ⟨k + 1, HLT.out, by go_num, HB4.out, HN2.out⟩
        case measure => exact HM2.out
      · have t : decide (x = y) = false := decide_eq_false he
        have HRR := Lib.hid (HEK.out he)
        rw [t]
        clear t he
        refine wpAnyH_take (i := 9) (v := ?_) (oper_at (r := _) rfl) (by kernel_rfl) (by kernel_rfl) (by kernel_rfl) (fun _ _ _ h => h) (Or.inl ⟨by rfl, ?_⟩) (by assumption) ?_
        rotate_left
        · intro w hSw; try dsimp only at hSw
          go_simp
          try with_reducible rfl
        try simp only [Act.put, List.setIfInBounds_toArray, List.set_cons_zero, List.set_cons_succ]
        refine wpAnyH_done (by kernel_rfl) ?_ _
        refine NoPanic.normal ?_
        go_wp2_with fail
        go_ret
        exact ⟨ret_bool (by rw [HRR.out]), HB4.out⟩
    · obtain rfl : k = ps.length := by omega
      have HRR := Lib.hid (HD.out (HX.out fun i h1 h2 => HSM.out i h1 h2 h1))
      clear hbel
      go_wp2_with fail
      go_ret
      exact ⟨ret_bool (by rw [HRR.out]), HBL.out⟩

set_option maxRecDepth 100000 in
set_option maxHeartbeats 4000000 in
theorem ofR_any (a : Gr)  (An : Option Addr) (cn : Nat) (Ae : Option Addr) (ce : Nat) (w : World) (hl1 : a.ns.length ≤ 1000) (hl2 : a.es.length ≤ 1000) :
    Calls Tryd.prog 29 #[gval An a.ns.length cn Ae a.es.length ce] w fun e w' => (∃ v u, e = .returned (.agg #[v, u]) ∧ OwnI w' w.heap.size v (numS (0 : Nat) a.ns.length) ∧ OwnI w' w.heap.size u (numS (0 : Nat) a.es.length)) ∧ Below w.heap.size w w' := by
  have hS0 : SR w _ ((w.alloc (.cells #[.slice An a.ns.length cn, .slice Ae a.es.length ce] 25)).alloc (.cells #[.slice none 0 0, .slice none 0 0] 27)) := SR.push (SR.push (SR.nil w) rfl _ _ _) (by simp) _ _ _
  have HN1 := Lib.hid (fun u (_ : Below w.heap.size w u) => finest2_any a.ns.length u hl1)
  have HN2 := Lib.hid (fun u (_ : Below w.heap.size w u) => finest2_any a.es.length u hl2)
  generalize numS (0 : Nat) a.ns.length = L1 at *
  generalize numS (0 : Nat) a.es.length = L2 at *
  go_enter Tryd.func29, Tryd.ntmps29
  go_wp2_with fail
  generalize hw1 : ((w.alloc (.cells #[.slice An a.ns.length cn, .slice Ae a.es.length ce] 25)).alloc (.cells #[.slice none 0 0, .slice none 0 0] 27)) = w1 at *
  clear hw1
  have HS := Lib.hid hS0
  have HWS : Hid (w.heap.size ≤ w1.drew.heap.size) := Lib.hid hS0.1.size
  clear hS0
  obtain ⟨c0x, c0y⟩ := HS.out.cell (i := 0) rfl
  obtain ⟨c1x, c1y⟩ := HS.out.cell (i := 1) rfl
  simp only [Nat.add_zero] at c0x c0y
  have fr0 := HS.out.free (i := 1) rfl 0
  have fr1 := HS.out.free (i := 1) rfl 1
  have HSd : Hid (SR w _ w1.drew) := Lib.hid (HS.out.up (below_d _))
  have HS1 : Hid ((fun u : World => u.cell? ⟨w.heap.size, 0, none⟩ = some (.slice An a.ns.length cn) ∧ u.cell? ⟨w.heap.size, 1, none⟩ = some (.slice Ae a.es.length ce)) w1.drew) := Lib.hid ⟨c0x, c0y⟩
  have HUP : Hid (∀ u u', (fun u : World => u.cell? ⟨w.heap.size, 0, none⟩ = some (.slice An a.ns.length cn) ∧ u.cell? ⟨w.heap.size, 1, none⟩ = some (.slice Ae a.es.length ce)) u → Below u.heap.size u u' → (fun u : World => u.cell? ⟨w.heap.size, 0, none⟩ = some (.slice An a.ns.length cn) ∧ u.cell? ⟨w.heap.size, 1, none⟩ = some (.slice Ae a.es.length ce)) u') := Lib.hid fun u u' h hb => ⟨cell_up hb (h.1), cell_up hb (h.2)⟩
  clear c0x c0y c1x c1y fr0 fr1
  refine wp_region_noPanic ?_
  refine wp_region_held_drew (S := (fun u : World => u.cell? ⟨w.heap.size, 0, none⟩ = some (.slice An a.ns.length cn) ∧ u.cell? ⟨w.heap.size, 1, none⟩ = some (.slice Ae a.es.length ce))) (by kernel_rfl) (HS1.out) (fun hHeld => ?_)
  refine wpAnyH_take (i := 0) (v := ?_) (oper_at (r := _) rfl) (by kernel_rfl) (by kernel_rfl) (by kernel_rfl) (fun _ _ _ h => h) (Or.inl ⟨by rfl, ?_⟩) (by assumption) ?_
  rotate_left
  · intro w hSw; try dsimp only at hSw
    go_simp
    try with_reducible rfl
  try simp only [Act.put, List.setIfInBounds_toArray, List.set_cons_zero, List.set_cons_succ]
  refine wpAnyH_take (i := 1) (v := ?_) (oper_at (r := _) rfl) (by kernel_rfl) (by kernel_rfl) (by kernel_rfl) (fun _ _ _ h => h) (Or.inl ⟨by rfl, ?_⟩) (by assumption) ?_
  rotate_left
  · intro w hSw; try dsimp only at hSw
    go_simp
    try with_reducible rfl
  try simp only [Act.put, List.setIfInBounds_toArray, List.set_cons_zero, List.set_cons_succ]
  refine wpAnyH_take (i := 2) (v := ?_) (oper_at (r := _) rfl) (by kernel_rfl) (by kernel_rfl) (by kernel_rfl) (fun _ _ _ h => h) (Or.inl ⟨by rfl, ?_⟩) (by assumption) ?_
  rotate_left
  · intro w hSw; try dsimp only at hSw
    go_simp
    try with_reducible rfl
  try simp only [Act.put, List.setIfInBounds_toArray, List.set_cons_zero, List.set_cons_succ]
  refine wpAnyH_take (i := 4) (v := ?_) (oper_at (r := _) rfl) (by kernel_rfl) (by kernel_rfl) (by kernel_rfl) (fun _ _ _ h => h) (Or.inl ⟨by rfl, ?_⟩) (by assumption) ?_
  rotate_left
  · intro w hSw; try dsimp only at hSw
    go_simp
    try with_reducible rfl
  try simp only [Act.put, List.setIfInBounds_toArray, List.set_cons_zero, List.set_cons_succ]
  refine wpAnyH_take (i := 5) (v := ?_) (oper_at (r := _) rfl) (by kernel_rfl) (by kernel_rfl) (by kernel_rfl) (fun _ _ _ h => h) (Or.inl ⟨by rfl, ?_⟩) (by assumption) ?_
  rotate_left
  · intro w hSw; try dsimp only at hSw
    go_simp
    try with_reducible rfl
  try simp only [Act.put, List.setIfInBounds_toArray, List.set_cons_zero, List.set_cons_succ]
  refine wpAnyH_take (i := 6) (v := ?_) (oper_at (r := _) rfl) (by kernel_rfl) (by kernel_rfl) (by kernel_rfl) (fun _ _ _ h => h) (Or.inl ⟨by rfl, ?_⟩) (by assumption) ?_
  rotate_left
  · intro w hSw; try dsimp only at hSw
    go_simp
    try with_reducible rfl
  try simp only [Act.put, List.setIfInBounds_toArray, List.set_cons_zero, List.set_cons_succ]
  refine wpAnyH_ready (rs := [3]) (by kernel_rfl) (by simp) ?_
  refine AllReadyH.cons (oper_at (r := _) rfl) (fun K hK => ?_) AllReadyH.nil
  go_simp
  refine (HN1.out _ HSd.out.1).mono ?_
  rintro e w2 ⟨v2, rfl, ho2, hb2⟩
  have HS2 := Lib.hid (HUP.out _ _ HS1.out hb2)
  have HLE := Lib.hid hb2.size
  have HSR2 := Lib.hid (HSd.out.up hb2)
  have HO2 := Lib.hid ho2
  obtain ⟨A2, d2, rfl⟩ := OwnE.slice ho2
  clear ho2 hb2
  go_wp2_with fail
  refine hK.out _ _ (HS2.out) (fun _ => ?_)
  clear hK K
  try simp only [Act.put, List.setIfInBounds_toArray, List.set_cons_zero, List.set_cons_succ]
  refine wpAnyH_ready (rs := [7]) (by kernel_rfl) (by simp) ?_
  refine AllReadyH.cons (oper_at (r := _) rfl) (fun K hK => ?_) AllReadyH.nil
  go_simp
  refine (HN2.out _ HSR2.out.1).mono ?_
  rintro e w3 ⟨v3, rfl, ho3, hb3⟩
  have HS3 := Lib.hid (HUP.out _ _ HS2.out hb3)
  have HSR3 := Lib.hid (HSR2.out.up hb3)
  have HOO := Lib.hid (OwnE.below HO2.out hb3 (Nat.le_refl _))
  have HO3 := Lib.hid ho3
  obtain ⟨A3, d3, rfl⟩ := OwnE.slice ho3
  clear ho3 hb3 HO2
  go_wp2_with fail
  refine hK.out _ _ (HS3.out) (fun _ => ?_)
  clear hK K
  try simp only [Act.put, List.setIfInBounds_toArray, List.set_cons_zero, List.set_cons_succ]
  refine wpAnyH_take (i := 8) (v := ?_) (oper_at (r := _) rfl) (by kernel_rfl) (by kernel_rfl) (by kernel_rfl) (fun _ _ _ h => h) (Or.inl ⟨by rfl, ?_⟩) (by assumption) ?_
  rotate_left
  · intro w hSw; try dsimp only at hSw
    go_simp
    try with_reducible rfl
  try simp only [Act.put, List.setIfInBounds_toArray, List.set_cons_zero, List.set_cons_succ]
  obtain ⟨c1x, c1y⟩ := HSR3.out.cell (i := 1) rfl
  have fr0 := HSR3.out.free (i := 1) rfl 0
  have fr1 := HSR3.out.free (i := 1) rfl 1
  have HSZ := Lib.hid (HSR3.out.set (i := 1) rfl (.slice A2 L1.length d2) (.slice A3 L2.length d3))
  obtain ⟨z0x, z0y⟩ := HSZ.out.cell (i := 0) rfl
  simp only [Nat.add_zero] at z0x z0y
  have HS4 : Hid ((fun u : World => u.cell? ⟨w.heap.size, 0, none⟩ = some (.slice An a.ns.length cn) ∧ u.cell? ⟨w.heap.size, 1, none⟩ = some (.slice Ae a.es.length ce)) _) := Lib.hid ⟨z0x, z0y⟩
  clear z0x z0y
  refine wpAnyH_ready (rs := [9]) (by kernel_rfl) (by simp) ?_
  refine AllReadyH.cons (oper_at (r := _) rfl) (fun K hK => ?_) AllReadyH.nil
  go_simp
  refine hK.out _ _ (HS4.out) (fun _ => ?_)
  clear hK K
  try simp only [Act.put, List.setIfInBounds_toArray, List.set_cons_zero, List.set_cons_succ]
  refine wpAnyH_done (by kernel_rfl) ?_ _
  refine NoPanic.normal ?_
  go_wp2_with fail
  obtain ⟨r0, r1⟩ := HSZ.out.cell (i := 1) rfl
  have hlt : w.heap.size + 1 < w1.heap.size := heap_lt (HS.out.2 1 _ rfl)
  have hsd := HSR2.out.1.size
  have hle : w1.drew.heap.size ≤ w2.heap.size := HLE.out
  refine bodyPost_ret (v := .agg #[.slice A2 L1.length d2, .slice A3 L2.length d3]) (by simp [results, Tryd.results29, go_sem, r0, r1]) rfl ?_
  have s1 : OwnI ((w3.setCell ⟨w.heap.size + 1, 0, none⟩ (.slice A2 L1.length d2)).setCell ⟨w.heap.size + 1, 1, none⟩ (.slice A3 L2.length d3)) _ _ _ := ownsRow_setCell_below (ownsRow_setCell_below HOO.out (by show w.heap.size + 1 < w1.heap.size; exact hlt) _) (by show w.heap.size + 1 < w1.heap.size; exact hlt) _
  have s2 : OwnI ((w3.setCell ⟨w.heap.size + 1, 0, none⟩ (.slice A2 L1.length d2)).setCell ⟨w.heap.size + 1, 1, none⟩ (.slice A3 L2.length d3)) _ _ _ := ownsRow_setCell_below (ownsRow_setCell_below HO3.out (by show w.heap.size + 1 < w2.heap.size; exact Nat.lt_of_lt_of_le hlt hle) _) (by show w.heap.size + 1 < w2.heap.size; exact Nat.lt_of_lt_of_le hlt hle) _
  exact ⟨⟨_, _, rfl, s1.mono HWS.out, s2.mono (Nat.le_trans HWS.out hle)⟩, HSZ.out.1⟩

set_option maxRecDepth 100000 in
set_option maxHeartbeats 4000000 in
theorem thenR_any (m n : Mo) (Mn : Option Addr) (mn : Nat) (Me : Option Addr) (me : Nat) (Nn : Option Addr) (nn : Nat) (Ne : Option Addr) (ne : Nat) (w : World) (hm1 : Ints w w.heap.size Mn m.ns) (hm2 : Ints w w.heap.size Me m.es) (lm1 : m.ns.length ≤ 1000) (lm2 : m.es.length ≤ 1000) (hn1 : Ints w w.heap.size Nn n.ns) (hn2 : Ints w w.heap.size Ne n.es) (hr1 : ∀ x ∈ m.ns, 0 ≤ x ∧ x < n.ns.length) (hr2 : ∀ x ∈ m.es, 0 ≤ x ∧ x < n.es.length) :
    Calls Tryd.prog 50 #[gval Mn m.ns.length mn Me m.es.length me, gval Nn n.ns.length nn Ne n.es.length ne] w fun e w' => (∃ v u, e = .returned (.agg #[v, u]) ∧ OwnI w' w.heap.size v (thr m.ns n.ns) ∧ OwnI w' w.heap.size u (thr m.es n.es)) ∧ Below w.heap.size w w' := by
  have hS0 : SR w _ (((w.alloc (.cells #[.slice Mn m.ns.length mn, .slice Me m.es.length me] 27)).alloc (.cells #[.slice Nn n.ns.length nn, .slice Ne n.es.length ne] 27)).alloc (.cells #[.slice none 0 0, .slice none 0 0] 27)) := SR.push (SR.push (SR.push (SR.nil w) rfl _ _ _) (by simp) _ _ _) (by simp) _ _ _
  have HN1 := Lib.hid (fun u (hu : Below w.heap.size w u) => through_any m.ns n.ns Mn Nn mn nn u lm1 hr1 (Reads.up hm1 hu) (Reads.up hn1 hu))
  have HN2 := Lib.hid (fun u (hu : Below w.heap.size w u) => through_any m.es n.es Me Ne me ne u lm2 hr2 (Reads.up hm2 hu) (Reads.up hn2 hu))
  clear hm1 hm2 hn1 hn2 hr1 hr2
  generalize thr m.ns n.ns = L1 at *
  generalize thr m.es n.es = L2 at *
  go_enter Tryd.func50, Tryd.ntmps50
  go_wp2_with fail
  generalize hw1 : (((w.alloc (.cells #[.slice Mn m.ns.length mn, .slice Me m.es.length me] 27)).alloc (.cells #[.slice Nn n.ns.length nn, .slice Ne n.es.length ne] 27)).alloc (.cells #[.slice none 0 0, .slice none 0 0] 27)) = w1 at *
  clear hw1
  have HS := Lib.hid hS0
  have HWS : Hid (w.heap.size ≤ w1.drew.heap.size) := Lib.hid hS0.1.size
  clear hS0
  obtain ⟨c0x, c0y⟩ := HS.out.cell (i := 0) rfl
  obtain ⟨c1x, c1y⟩ := HS.out.cell (i := 1) rfl
  obtain ⟨c2x, c2y⟩ := HS.out.cell (i := 2) rfl
  simp only [Nat.add_zero] at c0x c0y
  have fr0 := HS.out.free (i := 2) rfl 0
  have fr1 := HS.out.free (i := 2) rfl 1
  have HSd : Hid (SR w _ w1.drew) := Lib.hid (HS.out.up (below_d _))
  have HS1 : Hid ((fun u : World => u.cell? ⟨w.heap.size, 0, none⟩ = some (.slice Mn m.ns.length mn) ∧ u.cell? ⟨w.heap.size, 1, none⟩ = some (.slice Me m.es.length me) ∧ u.cell? ⟨w.heap.size + 1, 0, none⟩ = some (.slice Nn n.ns.length nn) ∧ u.cell? ⟨w.heap.size + 1, 1, none⟩ = some (.slice Ne n.es.length ne)) w1.drew) := Lib.hid ⟨c0x, c0y, c1x, c1y⟩
  have HUP : Hid (∀ u u', (fun u : World => u.cell? ⟨w.heap.size, 0, none⟩ = some (.slice Mn m.ns.length mn) ∧ u.cell? ⟨w.heap.size, 1, none⟩ = some (.slice Me m.es.length me) ∧ u.cell? ⟨w.heap.size + 1, 0, none⟩ = some (.slice Nn n.ns.length nn) ∧ u.cell? ⟨w.heap.size + 1, 1, none⟩ = some (.slice Ne n.es.length ne)) u → Below u.heap.size u u' → (fun u : World => u.cell? ⟨w.heap.size, 0, none⟩ = some (.slice Mn m.ns.length mn) ∧ u.cell? ⟨w.heap.size, 1, none⟩ = some (.slice Me m.es.length me) ∧ u.cell? ⟨w.heap.size + 1, 0, none⟩ = some (.slice Nn n.ns.length nn) ∧ u.cell? ⟨w.heap.size + 1, 1, none⟩ = some (.slice Ne n.es.length ne)) u') := Lib.hid fun u u' h hb => ⟨cell_up hb (h.1), cell_up hb (h.2.1), cell_up hb (h.2.2.1), cell_up hb (h.2.2.2)⟩
  clear c0x c0y c1x c1y c2x c2y fr0 fr1
  refine wp_region_noPanic ?_
  refine wp_region_held_drew (S := (fun u : World => u.cell? ⟨w.heap.size, 0, none⟩ = some (.slice Mn m.ns.length mn) ∧ u.cell? ⟨w.heap.size, 1, none⟩ = some (.slice Me m.es.length me) ∧ u.cell? ⟨w.heap.size + 1, 0, none⟩ = some (.slice Nn n.ns.length nn) ∧ u.cell? ⟨w.heap.size + 1, 1, none⟩ = some (.slice Ne n.es.length ne))) (by kernel_rfl) (HS1.out) (fun hHeld => ?_)
  refine wpAnyH_take (i := 0) (v := ?_) (oper_at (r := _) rfl) (by kernel_rfl) (by kernel_rfl) (by kernel_rfl) (fun _ _ _ h => h) (Or.inl ⟨by rfl, ?_⟩) (by assumption) ?_
  rotate_left
  · intro w hSw; try dsimp only at hSw
    go_simp
    try with_reducible rfl
  try simp only [Act.put, List.setIfInBounds_toArray, List.set_cons_zero, List.set_cons_succ]
  refine wpAnyH_take (i := 1) (v := ?_) (oper_at (r := _) rfl) (by kernel_rfl) (by kernel_rfl) (by kernel_rfl) (fun _ _ _ h => h) (Or.inl ⟨by rfl, ?_⟩) (by assumption) ?_
  rotate_left
  · intro w hSw; try dsimp only at hSw
    go_simp
    try with_reducible rfl
  try simp only [Act.put, List.setIfInBounds_toArray, List.set_cons_zero, List.set_cons_succ]
  refine wpAnyH_take (i := 2) (v := ?_) (oper_at (r := _) rfl) (by kernel_rfl) (by kernel_rfl) (by kernel_rfl) (fun _ _ _ h => h) (Or.inl ⟨by rfl, ?_⟩) (by assumption) ?_
  rotate_left
  · intro w hSw; try dsimp only at hSw
    go_simp
    try with_reducible rfl
  try simp only [Act.put, List.setIfInBounds_toArray, List.set_cons_zero, List.set_cons_succ]
  refine wpAnyH_take (i := 3) (v := ?_) (oper_at (r := _) rfl) (by kernel_rfl) (by kernel_rfl) (by kernel_rfl) (fun _ _ _ h => h) (Or.inl ⟨by rfl, ?_⟩) (by assumption) ?_
  rotate_left
  · intro w hSw; try dsimp only at hSw
    go_simp
    try with_reducible rfl
  try simp only [Act.put, List.setIfInBounds_toArray, List.set_cons_zero, List.set_cons_succ]
  refine wpAnyH_take (i := 5) (v := ?_) (oper_at (r := _) rfl) (by kernel_rfl) (by kernel_rfl) (by kernel_rfl) (fun _ _ _ h => h) (Or.inl ⟨by rfl, ?_⟩) (by assumption) ?_
  rotate_left
  · intro w hSw; try dsimp only at hSw
    go_simp
    try with_reducible rfl
  try simp only [Act.put, List.setIfInBounds_toArray, List.set_cons_zero, List.set_cons_succ]
  refine wpAnyH_take (i := 6) (v := ?_) (oper_at (r := _) rfl) (by kernel_rfl) (by kernel_rfl) (by kernel_rfl) (fun _ _ _ h => h) (Or.inl ⟨by rfl, ?_⟩) (by assumption) ?_
  rotate_left
  · intro w hSw; try dsimp only at hSw
    go_simp
    try with_reducible rfl
  try simp only [Act.put, List.setIfInBounds_toArray, List.set_cons_zero, List.set_cons_succ]
  refine wpAnyH_take (i := 7) (v := ?_) (oper_at (r := _) rfl) (by kernel_rfl) (by kernel_rfl) (by kernel_rfl) (fun _ _ _ h => h) (Or.inl ⟨by rfl, ?_⟩) (by assumption) ?_
  rotate_left
  · intro w hSw; try dsimp only at hSw
    go_simp
    try with_reducible rfl
  try simp only [Act.put, List.setIfInBounds_toArray, List.set_cons_zero, List.set_cons_succ]
  refine wpAnyH_take (i := 8) (v := ?_) (oper_at (r := _) rfl) (by kernel_rfl) (by kernel_rfl) (by kernel_rfl) (fun _ _ _ h => h) (Or.inl ⟨by rfl, ?_⟩) (by assumption) ?_
  rotate_left
  · intro w hSw; try dsimp only at hSw
    go_simp
    try with_reducible rfl
  try simp only [Act.put, List.setIfInBounds_toArray, List.set_cons_zero, List.set_cons_succ]
  refine wpAnyH_ready (rs := [4]) (by kernel_rfl) (by simp) ?_
  refine AllReadyH.cons (oper_at (r := _) rfl) (fun K hK => ?_) AllReadyH.nil
  go_simp
  refine (HN1.out _ HSd.out.1).mono ?_
  rintro e w2 ⟨v2, rfl, ho2, hb2⟩
  have HS2 := Lib.hid (HUP.out _ _ HS1.out hb2)
  have HLE := Lib.hid hb2.size
  have HSR2 := Lib.hid (HSd.out.up hb2)
  have HO2 := Lib.hid ho2
  obtain ⟨A2, d2, rfl⟩ := OwnE.slice ho2
  clear ho2 hb2
  go_wp2_with fail
  refine hK.out _ _ (HS2.out) (fun _ => ?_)
  clear hK K
  try simp only [Act.put, List.setIfInBounds_toArray, List.set_cons_zero, List.set_cons_succ]
  refine wpAnyH_ready (rs := [9]) (by kernel_rfl) (by simp) ?_
  refine AllReadyH.cons (oper_at (r := _) rfl) (fun K hK => ?_) AllReadyH.nil
  go_simp
  refine (HN2.out _ HSR2.out.1).mono ?_
  rintro e w3 ⟨v3, rfl, ho3, hb3⟩
  have HS3 := Lib.hid (HUP.out _ _ HS2.out hb3)
  have HSR3 := Lib.hid (HSR2.out.up hb3)
  have HOO := Lib.hid (OwnE.below HO2.out hb3 (Nat.le_refl _))
  have HO3 := Lib.hid ho3
  obtain ⟨A3, d3, rfl⟩ := OwnE.slice ho3
  clear ho3 hb3 HO2
  go_wp2_with fail
  refine hK.out _ _ (HS3.out) (fun _ => ?_)
  clear hK K
  try simp only [Act.put, List.setIfInBounds_toArray, List.set_cons_zero, List.set_cons_succ]
  refine wpAnyH_take (i := 10) (v := ?_) (oper_at (r := _) rfl) (by kernel_rfl) (by kernel_rfl) (by kernel_rfl) (fun _ _ _ h => h) (Or.inl ⟨by rfl, ?_⟩) (by assumption) ?_
  rotate_left
  · intro w hSw; try dsimp only at hSw
    go_simp
    try with_reducible rfl
  try simp only [Act.put, List.setIfInBounds_toArray, List.set_cons_zero, List.set_cons_succ]
  obtain ⟨c2x, c2y⟩ := HSR3.out.cell (i := 2) rfl
  have fr0 := HSR3.out.free (i := 2) rfl 0
  have fr1 := HSR3.out.free (i := 2) rfl 1
  have HSZ := Lib.hid (HSR3.out.set (i := 2) rfl (.slice A2 L1.length d2) (.slice A3 L2.length d3))
  obtain ⟨z0x, z0y⟩ := HSZ.out.cell (i := 0) rfl
  obtain ⟨z1x, z1y⟩ := HSZ.out.cell (i := 1) rfl
  simp only [Nat.add_zero] at z0x z0y
  have HS4 : Hid ((fun u : World => u.cell? ⟨w.heap.size, 0, none⟩ = some (.slice Mn m.ns.length mn) ∧ u.cell? ⟨w.heap.size, 1, none⟩ = some (.slice Me m.es.length me) ∧ u.cell? ⟨w.heap.size + 1, 0, none⟩ = some (.slice Nn n.ns.length nn) ∧ u.cell? ⟨w.heap.size + 1, 1, none⟩ = some (.slice Ne n.es.length ne)) _) := Lib.hid ⟨z0x, z0y, z1x, z1y⟩
  clear z0x z0y z1x z1y
  refine wpAnyH_ready (rs := [11]) (by kernel_rfl) (by simp) ?_
  refine AllReadyH.cons (oper_at (r := _) rfl) (fun K hK => ?_) AllReadyH.nil
  go_simp
  refine hK.out _ _ (HS4.out) (fun _ => ?_)
  clear hK K
  try simp only [Act.put, List.setIfInBounds_toArray, List.set_cons_zero, List.set_cons_succ]
  refine wpAnyH_done (by kernel_rfl) ?_ _
  refine NoPanic.normal ?_
  go_wp2_with fail
  obtain ⟨r0, r1⟩ := HSZ.out.cell (i := 2) rfl
  have hlt : w.heap.size + 2 < w1.heap.size := heap_lt (HS.out.2 2 _ rfl)
  have hsd := HSR2.out.1.size
  have hle : w1.drew.heap.size ≤ w2.heap.size := HLE.out
  refine bodyPost_ret (v := .agg #[.slice A2 L1.length d2, .slice A3 L2.length d3]) (by simp [results, Tryd.results50, go_sem, r0, r1]) rfl ?_
  have s1 : OwnI ((w3.setCell ⟨w.heap.size + 2, 0, none⟩ (.slice A2 L1.length d2)).setCell ⟨w.heap.size + 2, 1, none⟩ (.slice A3 L2.length d3)) _ _ _ := ownsRow_setCell_below (ownsRow_setCell_below HOO.out (by show w.heap.size + 2 < w1.heap.size; exact hlt) _) (by show w.heap.size + 2 < w1.heap.size; exact hlt) _
  have s2 : OwnI ((w3.setCell ⟨w.heap.size + 2, 0, none⟩ (.slice A2 L1.length d2)).setCell ⟨w.heap.size + 2, 1, none⟩ (.slice A3 L2.length d3)) _ _ _ := ownsRow_setCell_below (ownsRow_setCell_below HO3.out (by show w.heap.size + 2 < w2.heap.size; exact Nat.lt_of_lt_of_le hlt hle) _) (by show w.heap.size + 2 < w2.heap.size; exact Nat.lt_of_lt_of_le hlt hle) _
  exact ⟨⟨_, _, rfl, s1.mono HWS.out, s2.mono (Nat.le_trans HWS.out hle)⟩, HSZ.out.1⟩

set_option maxRecDepth 100000 in
set_option maxHeartbeats 4000000 in
theorem identR_any (a : Gr)  (An : Option Addr) (cn : Nat) (Ae : Option Addr) (ce : Nat) (w : World) (hTa : GrAt w An cn Ae ce a) :
    Calls Tryd.prog 22 #[gval An a.ns.length cn Ae a.es.length ce] w fun e w' => (∃ v, e = .returned (.tuple #[v, .int .i64 (validE a : Int)]) ∧ IsM w' v (idR a)) ∧ Below w.heap.size w w' := by
  have hS0 : SR w _ ((w.alloc (.cells #[.slice An a.ns.length cn, .slice Ae a.es.length ce] 25)).alloc (.cells #[.slice none 0 0, .slice none 0 0] 27)) := SR.push (SR.push (SR.nil w) rfl _ _ _) (by simp) _ _ _
  have HV := Lib.hid (validR_any a An cn Ae ce _ (hTa.up hS0.1))
  have HZ := Lib.hid (fun h => valid_zero (g := a) h)
  have HI : Hid (idR a = if validE a = 0 then idM a else noM) := Lib.hid rfl
  have HS0 := Lib.hid hS0
  have HOF := Lib.hid (fun h1 h2 u => ofR_any a An cn Ae ce u h1 h2)
  clear hTa hS0
  generalize idR a = R at HI ⊢
  generalize validE a = z at *
  go_enter Tryd.func22, Tryd.ntmps22
  go_wp2_with fail
  refine HV.out.mono ?_
  rintro e w1 ⟨rfl, hb1⟩
  have HS := Lib.hid (HS0.out.up hb1)
  clear hb1 HS0 HV
  obtain ⟨c0x, c0y⟩ := HS.out.cell (i := 0) rfl
  obtain ⟨c1x, c1y⟩ := HS.out.cell (i := 1) rfl
  simp only [Nat.add_zero] at c0x c0y
  have fr0 := HS.out.free (i := 1) rfl 0
  have fr1 := HS.out.free (i := 1) rfl 1
  by_cases hz : z = 0
  case neg =>
    have t1 : ((z : Int) != 0) = true := by simp; omega
    have HR := Lib.hid (show R = noM by rw [HI.out, if_neg hz])
    clear hz
    go_wp2_with fail
    have hS2 := HS.out.set (i := 1) rfl (.slice none 0 0) (.slice none 0 0)
    obtain ⟨r0, r1⟩ := hS2.cell (i := 1) rfl
    refine bodyPost_ret (v := .tuple #[gval none 0 0 none 0 0, .int .i64 ((z : Nat))]) (by simp [results, Tryd.results22, go_sem, r0, r1]) rfl ?_
    exact ⟨⟨_, rfl, by rw [HR.out]; exact isM_nil _⟩, hS2.1⟩
  subst hz
  obtain ⟨l1, l2, _⟩ := HZ.out rfl
  have HR : Hid (R = ⟨numS (0 : Nat) a.ns.length, numS (0 : Nat) a.es.length⟩) := Lib.hid (by rw [HI.out, if_pos rfl]; rfl)
  have HOO := Lib.hid (HOF.out (by omega) (by omega))
  generalize numS (0 : Nat) a.ns.length = L1 at *
  generalize numS (0 : Nat) a.es.length = L2 at *
  clear HZ HI HOF c1x c1y fr0 fr1
  go_wp2_with fail
  refine (HOO.out _).mono ?_
  rintro e w9 ⟨⟨x, y, rfl, o1, o2⟩, hb9⟩
  have HS9 := Lib.hid (HS.out.up hb9)
  have HLT : Hid (w.heap.size + 1 < w1.heap.size) := Lib.hid (heap_lt (HS.out.2 1 _ rfl))
  have HO1 := Lib.hid o1
  have HO2 := Lib.hid o2
  obtain ⟨a1, d1, rfl⟩ := OwnE.slice o1
  obtain ⟨a2, d2, rfl⟩ := OwnE.slice o2
  clear o1 o2 hb9
  obtain ⟨q0, q1⟩ := HS9.out.cell (i := 1) rfl
  have fr0 := HS9.out.free (i := 1) rfl 0
  have fr1 := HS9.out.free (i := 1) rfl 1
  go_wp2_with fail
  have HSZ := Lib.hid (HS9.out.set (i := 1) rfl (.slice a1 L1.length d1) (.slice a2 L2.length d2))
  obtain ⟨r0, r1⟩ := HSZ.out.cell (i := 1) rfl
  have hlt := HLT.out
  refine bodyPost_ret (v := .tuple #[.agg #[.slice a1 L1.length d1, .slice a2 L2.length d2], .int .i64 0]) (by simp [results, Tryd.results22, go_sem, r0, r1]) rfl ?_
  have s1 : OwnI ((w9.setCell ⟨w.heap.size + 1, 0, none⟩ (.slice a1 L1.length d1)).setCell ⟨w.heap.size + 1, 1, none⟩ (.slice a2 L2.length d2)) _ _ _ := ownsRow_setCell_below (ownsRow_setCell_below HO1.out hlt _) hlt _
  have s2 : OwnI ((w9.setCell ⟨w.heap.size + 1, 0, none⟩ (.slice a1 L1.length d1)).setCell ⟨w.heap.size + 1, 1, none⟩ (.slice a2 L2.length d2)) _ _ _ := ownsRow_setCell_below (ownsRow_setCell_below HO2.out hlt _) hlt _
  exact ⟨⟨_, rfl, by rw [HR.out]; exact isM_of (g := ⟨L1, L2⟩) (isI_own s1) (isI_own s2)⟩, HSZ.out.1⟩

set_option maxRecDepth 100000 in
set_option maxHeartbeats 4000000 in
theorem composeR_any (a b c : Gr) (m n : Mo) (An : Option Addr) (cn : Nat) (Ae : Option Addr) (ce : Nat) (Bn : Option Addr) (dn : Nat) (Be : Option Addr) (de : Nat) (Cn : Option Addr) (kn : Nat) (Ce : Option Addr) (ke : Nat) (Mn : Option Addr) (mn : Nat) (Me : Option Addr) (me : Nat) (Nn : Option Addr) (nn : Nat) (Ne : Option Addr) (ne : Nat) (w : World) (hTa : GrAt w An cn Ae ce a) (hTb : GrAt w Bn dn Be de b) (hTc : GrAt w Cn kn Ce ke c) (hm1 : Ints w w.heap.size Mn m.ns) (hm2 : Ints w w.heap.size Me m.es) (lm1 : m.ns.length ≤ 1000) (lm2 : m.es.length ≤ 1000) (hn1 : Ints w w.heap.size Nn n.ns) (hn2 : Ints w w.heap.size Ne n.es) (ln1 : n.ns.length ≤ 1000) (ln2 : n.es.length ≤ 1000) :
    Calls Tryd.prog 26 #[gval An a.ns.length cn Ae a.es.length ce, gval Bn b.ns.length dn Be b.es.length de, gval Cn c.ns.length kn Ce c.es.length ke, gval Mn m.ns.length mn Me m.es.length me, gval Nn n.ns.length nn Ne n.es.length ne] w fun e w' => (∃ v, e = .returned (.tuple #[v, .int .i64 (cmpE a b c m n : Int)]) ∧ IsM w' v (cmpR a b c m n)) ∧ Below w.heap.size w w' := by
  have hS0 : SR w _ ((((((w.alloc (.cells #[.slice An a.ns.length cn, .slice Ae a.es.length ce] 25)).alloc (.cells #[.slice Bn b.ns.length dn, .slice Be b.es.length de] 25)).alloc (.cells #[.slice Cn c.ns.length kn, .slice Ce c.es.length ke] 25)).alloc (.cells #[.slice Mn m.ns.length mn, .slice Me m.es.length me] 27)).alloc (.cells #[.slice Nn n.ns.length nn, .slice Ne n.es.length ne] 27)).alloc (.cells #[.slice none 0 0, .slice none 0 0] 27)) := SR.push (SR.push (SR.push (SR.push (SR.push (SR.push (SR.nil w) rfl _ _ _) (by simp) _ _ _) (by simp) _ _ _) (by simp) _ _ _) (by simp) _ _ _) (by simp) _ _ _
  have HV := Lib.hid (validR6_any a b m An cn Ae ce Bn dn Be de Mn mn Me me _ (hTa.up hS0.1) (hTb.up hS0.1) (Reads.up hm1 hS0.1) (Reads.up hm2 hS0.1) lm1 lm2)
  have HV2 := Lib.hid (fun (u : World) (hu : Below w.heap.size w u) => validR6_any b c n Bn dn Be de Cn kn Ce ke Nn nn Ne ne u (hTb.up hu) (hTc.up hu) (Reads.up hn1 hu) (Reads.up hn2 hu) ln1 ln2)
  have HZ := Lib.hid (fun h => mor_zero (a := a) (b := b) (m := m).1 h)
  have HZ2 := Lib.hid (fun h => mor_zero (a := b) (b := c) (m := n).1 h)
  have HE : Hid (cmpE a b c m n = if morE a b m ≠ 0 then morE a b m else morE b c n) := Lib.hid rfl
  have HI : Hid (cmpR a b c m n = if cmpE a b c m n = 0 then compM m n else noM) := Lib.hid rfl
  have HS0 := Lib.hid hS0
  have HTH := Lib.hid (fun (h1 : ∀ x ∈ m.ns, 0 ≤ x ∧ x < n.ns.length) (h2 : ∀ x ∈ m.es, 0 ≤ x ∧ x < n.es.length) (u : World) (hu : Below w.heap.size w u) => thenR_any m n Mn mn Me me Nn nn Ne ne u (Reads.up hm1 hu) (Reads.up hm2 hu) lm1 lm2 (Reads.up hn1 hu) (Reads.up hn2 hu) h1 h2)
  clear hTa hTb hTc hm1 hm2 hn1 hn2 hS0
  generalize cmpR a b c m n = R at HI ⊢
  generalize cmpE a b c m n = E at *
  generalize morE a b m = z at *
  generalize morE b c n = z2 at *
  go_enter Tryd.func26, Tryd.ntmps26
  go_wp2_with fail
  refine HV.out.mono ?_
  rintro e w0 ⟨rfl, hb1⟩
  have HS := Lib.hid (HS0.out.up hb1)
  clear hb1 HS0 HV
  obtain ⟨c0x, c0y⟩ := HS.out.cell (i := 0) rfl
  obtain ⟨c1x, c1y⟩ := HS.out.cell (i := 1) rfl
  obtain ⟨c2x, c2y⟩ := HS.out.cell (i := 2) rfl
  obtain ⟨c3x, c3y⟩ := HS.out.cell (i := 3) rfl
  obtain ⟨c4x, c4y⟩ := HS.out.cell (i := 4) rfl
  obtain ⟨c5x, c5y⟩ := HS.out.cell (i := 5) rfl
  simp only [Nat.add_zero] at c0x c0y
  have fr0 := HS.out.free (i := 5) rfl 0
  have fr1 := HS.out.free (i := 5) rfl 1
  by_cases hz : z = 0
  case neg =>
    have t1 : ((z : Int) != 0) = true := by simp; omega
    have hE : E = z := by rw [HE.out, if_pos hz]
    have HEE := Lib.hid hE
    have HR := Lib.hid (show R = noM by rw [HI.out, if_neg (by rw [hE]; exact hz)])
    clear hz hE
    go_wp2_with fail
    have hS2 := HS.out.set (i := 5) rfl (.slice none 0 0) (.slice none 0 0)
    obtain ⟨r0, r1⟩ := hS2.cell (i := 5) rfl
    refine bodyPost_ret (v := .tuple #[gval none 0 0 none 0 0, .int .i64 ((z : Nat))]) (by simp [results, Tryd.results26, go_sem, r0, r1]) rfl ?_
    exact ⟨⟨_, by rw [HEE.out], by rw [HR.out]; exact isM_nil _⟩, hS2.1⟩
  subst hz
  have HK1 := Lib.hid (HZ.out rfl)
  clear HZ
  have HEE := Lib.hid (show E = z2 by rw [HE.out, if_neg (fun h => h rfl)])
  clear c0x c0y c1x c1y c2x c2y c3x c3y c4x c4y c5x c5y fr0 fr1
  obtain ⟨c0x, c0y⟩ := HS.out.cell (i := 0) rfl
  obtain ⟨c1x, c1y⟩ := HS.out.cell (i := 1) rfl
  obtain ⟨c2x, c2y⟩ := HS.out.cell (i := 2) rfl
  obtain ⟨c3x, c3y⟩ := HS.out.cell (i := 3) rfl
  obtain ⟨c4x, c4y⟩ := HS.out.cell (i := 4) rfl
  obtain ⟨c5x, c5y⟩ := HS.out.cell (i := 5) rfl
  simp only [Nat.add_zero] at c0x c0y
  go_wp2_with fail
  refine (HV2.out _ HS.out.1).mono ?_
  rintro e w1 ⟨rfl, hb1⟩
  clear c0x c0y c1x c1y c2x c2y c3x c3y c4x c4y c5x c5y
  have HS := Lib.hid (HS.out.up hb1)
  clear hb1 HV2
  obtain ⟨c0x, c0y⟩ := HS.out.cell (i := 0) rfl
  obtain ⟨c1x, c1y⟩ := HS.out.cell (i := 1) rfl
  obtain ⟨c2x, c2y⟩ := HS.out.cell (i := 2) rfl
  obtain ⟨c3x, c3y⟩ := HS.out.cell (i := 3) rfl
  obtain ⟨c4x, c4y⟩ := HS.out.cell (i := 4) rfl
  obtain ⟨c5x, c5y⟩ := HS.out.cell (i := 5) rfl
  simp only [Nat.add_zero] at c0x c0y
  have fr0 := HS.out.free (i := 5) rfl 0
  have fr1 := HS.out.free (i := 5) rfl 1
  by_cases hz : z2 = 0
  case neg =>
    have t1 : ((z2 : Int) != 0) = true := by simp; omega
    have HR := Lib.hid (show R = noM by rw [HI.out, if_neg (by rw [HEE.out]; exact hz)])
    clear hz
    go_wp2_with fail
    have hS2 := HS.out.set (i := 5) rfl (.slice none 0 0) (.slice none 0 0)
    obtain ⟨r0, r1⟩ := hS2.cell (i := 5) rfl
    refine bodyPost_ret (v := .tuple #[gval none 0 0 none 0 0, .int .i64 ((z2 : Nat))]) (by simp [results, Tryd.results26, go_sem, r0, r1]) rfl ?_
    exact ⟨⟨_, by rw [HEE.out], by rw [HR.out]; exact isM_nil _⟩, hS2.1⟩
  subst hz
  have k1 := HK1.out
  have k2 := HZ2.out rfl
  have HR : Hid (R = ⟨thr m.ns n.ns, thr m.es n.es⟩) := Lib.hid (by rw [HI.out, if_pos HEE.out]; rfl)
  have HOO := Lib.hid (HTH.out (fun x hx => by rw [k2.ln]; exact k1.rn x hx) (fun x hx => by rw [k2.le]; exact k1.re x hx))
  generalize thr m.ns n.ns = L1 at *
  generalize thr m.es n.es = L2 at *
  clear HK1 HZ2 HI HE k1 k2 HTH c5x c5y fr0 fr1
  go_wp2_with fail
  refine (HOO.out _ HS.out.1).mono ?_
  rintro e w9 ⟨⟨x, y, rfl, o1, o2⟩, hb9⟩
  have HS9 := Lib.hid (HS.out.up hb9)
  have HLT : Hid (w.heap.size + 5 < w1.heap.size) := Lib.hid (heap_lt (HS.out.2 5 _ rfl))
  have HO1 := Lib.hid o1
  have HO2 := Lib.hid o2
  obtain ⟨a1, d1, rfl⟩ := OwnE.slice o1
  obtain ⟨a2, d2, rfl⟩ := OwnE.slice o2
  clear o1 o2 hb9
  obtain ⟨q0, q1⟩ := HS9.out.cell (i := 5) rfl
  have fr0 := HS9.out.free (i := 5) rfl 0
  have fr1 := HS9.out.free (i := 5) rfl 1
  go_wp2_with fail
  have HSZ := Lib.hid (HS9.out.set (i := 5) rfl (.slice a1 L1.length d1) (.slice a2 L2.length d2))
  obtain ⟨r0, r1⟩ := HSZ.out.cell (i := 5) rfl
  have hlt := HLT.out
  refine bodyPost_ret (v := .tuple #[.agg #[.slice a1 L1.length d1, .slice a2 L2.length d2], .int .i64 0]) (by simp [results, Tryd.results26, go_sem, r0, r1]) rfl ?_
  have s1 : OwnI ((w9.setCell ⟨w.heap.size + 5, 0, none⟩ (.slice a1 L1.length d1)).setCell ⟨w.heap.size + 5, 1, none⟩ (.slice a2 L2.length d2)) _ _ _ := ownsRow_setCell_below (ownsRow_setCell_below HO1.out hlt _) hlt _
  have s2 : OwnI ((w9.setCell ⟨w.heap.size + 5, 0, none⟩ (.slice a1 L1.length d1)).setCell ⟨w.heap.size + 5, 1, none⟩ (.slice a2 L2.length d2)) _ _ _ := ownsRow_setCell_below (ownsRow_setCell_below HO2.out hlt _) hlt _
  exact ⟨⟨_, (by rw [HEE.out]; rfl), by rw [HR.out]; exact isM_of (g := ⟨L1, L2⟩) (isI_own s1) (isI_own s2)⟩, HSZ.out.1⟩

theorem injB_nod (a b : Gr) (m : Mo) : injB a b m = if morE a b m = 0 then (nodB m.ns && nodB m.es) else false := by
  by_cases h : morE a b m = 0
  · rw [if_pos h, Bool.eq_iff_iff, injB_iff, Bool.and_eq_true]
    unfold InjM nodB
    rw [@decide_eq_true_iff _ (Classical.propDecidable _), @decide_eq_true_iff _ (Classical.propDecidable _)]
    exact ⟨fun h => h.2, fun k => ⟨h, k⟩⟩
  · rw [if_neg h]
    exact Bool.eq_false_iff.2 fun e => h (injB_iff.1 e).1
theorem surB_cov (a b : Gr) (m : Mo) : surB a b m = if morE a b m = 0 then (covB m.ns b.ns.length && covB m.es b.es.length) else false := by
  by_cases h : morE a b m = 0
  · rw [if_pos h, Bool.eq_iff_iff, surB_iff, Bool.and_eq_true]
    unfold SurM covB
    rw [@decide_eq_true_iff _ (Classical.propDecidable _), @decide_eq_true_iff _ (Classical.propDecidable _)]
    exact ⟨fun h => h.2, fun k => ⟨h, k⟩⟩
  · rw [if_neg h]
    exact Bool.eq_false_iff.2 fun e => h (surB_iff.1 e).1

set_option maxRecDepth 100000 in
set_option maxHeartbeats 4000000 in
theorem injR_any (a b : Gr) (m : Mo) (An : Option Addr) (cn : Nat) (Ae : Option Addr) (ce : Nat) (Bn : Option Addr) (dn : Nat) (Be : Option Addr) (de : Nat) (Mn : Option Addr) (mn : Nat) (Me : Option Addr) (me : Nat) (w : World) (hTa : GrAt w An cn Ae ce a) (hTb : GrAt w Bn dn Be de b) (hm1 : Ints w w.heap.size Mn m.ns) (hm2 : Ints w w.heap.size Me m.es) (lm1 : m.ns.length ≤ 1000) (lm2 : m.es.length ≤ 1000) :
    Calls Tryd.prog 16 #[gval An a.ns.length cn Ae a.es.length ce, gval Bn b.ns.length dn Be b.es.length de, gval Mn m.ns.length mn Me m.es.length me] w fun e w' => e = .returned (.bool (injB a b m)) ∧ Below w.heap.size w w' := by
  have hS0 : SR w _ (((w.alloc (.cells #[.slice An a.ns.length cn, .slice Ae a.es.length ce] 25)).alloc (.cells #[.slice Bn b.ns.length dn, .slice Be b.es.length de] 25)).alloc (.cells #[.slice Mn m.ns.length mn, .slice Me m.es.length me] 27)) := SR.push (SR.push (SR.push (SR.nil w) rfl _ _ _) (by simp) _ _ _) (by simp) _ _ _
  have HV := Lib.hid (validR6_any a b m An cn Ae ce Bn dn Be de Mn mn Me me _ (hTa.up hS0.1) (hTb.up hS0.1) (Reads.up hm1 hS0.1) (Reads.up hm2 hS0.1) lm1 lm2)
  have HC1 := Lib.hid (fun (u : World) (hu : Below w.heap.size w u) => distinct_any m.ns Mn mn u lm1 (Reads.up hm1 hu))
  have HC2 := Lib.hid (fun (u : World) (hu : Below w.heap.size w u) => distinct_any m.es Me me u lm2 (Reads.up hm2 hu))
  have HI := Lib.hid (injB_nod a b m)
  have HS0 := Lib.hid hS0
  clear hTa hTb hm1 hm2 hS0
  generalize injB a b m = R at HI ⊢
  generalize morE a b m = z at *
  generalize nodB m.ns = k1 at *
  generalize nodB m.es = k2 at *
  go_enter Tryd.func16, Tryd.ntmps16
  go_wp2_with fail
  refine HV.out.mono ?_
  rintro e w1 ⟨rfl, hb1⟩
  have HS := Lib.hid (HS0.out.up hb1)
  clear hb1 HS0 HV
  obtain ⟨c0x, c0y⟩ := HS.out.cell (i := 0) rfl
  obtain ⟨c1x, c1y⟩ := HS.out.cell (i := 1) rfl
  obtain ⟨c2x, c2y⟩ := HS.out.cell (i := 2) rfl
  simp only [Nat.add_zero] at c0x c0y
  by_cases hz : z = 0
  case neg =>
    have t1 : ((z : Int) == 0) = false := by simp; omega
    have HR := Lib.hid (show R = false by rw [HI.out, if_neg hz])
    clear hz
    go_wp2_with fail
    go_ret
    exact ⟨ret_bool (by rw [HR.out]), HS.out.1⟩
  subst hz
  have HX := Lib.hid (show R = (k1 && k2) by rw [HI.out, if_pos rfl])
  clear HI
  go_wp2_with fail
  refine (HC1.out _ HS.out.1).mono ?_
  rintro e w2 ⟨rfl, hb2⟩
  have HS := Lib.hid (HS.out.up hb2)
  clear hb2 c0x c0y c1x c1y c2x c2y
  obtain ⟨c0x, c0y⟩ := HS.out.cell (i := 0) rfl
  obtain ⟨c1x, c1y⟩ := HS.out.cell (i := 1) rfl
  obtain ⟨c2x, c2y⟩ := HS.out.cell (i := 2) rfl
  simp only [Nat.add_zero] at c0x c0y
  cases k1
  · go_wp2_with fail
    go_ret
    exact ⟨ret_bool (by rw [HX.out]; rfl), HS.out.1⟩
  · go_wp2_with fail
    refine (HC2.out _ HS.out.1).mono ?_
    rintro e w3 ⟨rfl, hb3⟩
    have HS := Lib.hid (HS.out.up hb3)
    clear hb3
    go_wp2_with fail
    go_ret
    exact ⟨ret_bool (by rw [HX.out]; rfl), HS.out.1⟩

set_option maxRecDepth 100000 in
set_option maxHeartbeats 4000000 in
theorem surR_any (a b : Gr) (m : Mo) (An : Option Addr) (cn : Nat) (Ae : Option Addr) (ce : Nat) (Bn : Option Addr) (dn : Nat) (Be : Option Addr) (de : Nat) (Mn : Option Addr) (mn : Nat) (Me : Option Addr) (me : Nat) (w : World) (hTa : GrAt w An cn Ae ce a) (hTb : GrAt w Bn dn Be de b) (hm1 : Ints w w.heap.size Mn m.ns) (hm2 : Ints w w.heap.size Me m.es) (lm1 : m.ns.length ≤ 1000) (lm2 : m.es.length ≤ 1000) :
    Calls Tryd.prog 18 #[gval An a.ns.length cn Ae a.es.length ce, gval Bn b.ns.length dn Be b.es.length de, gval Mn m.ns.length mn Me m.es.length me] w fun e w' => e = .returned (.bool (surB a b m)) ∧ Below w.heap.size w w' := by
  have hS0 : SR w _ (((w.alloc (.cells #[.slice An a.ns.length cn, .slice Ae a.es.length ce] 25)).alloc (.cells #[.slice Bn b.ns.length dn, .slice Be b.es.length de] 25)).alloc (.cells #[.slice Mn m.ns.length mn, .slice Me m.es.length me] 27)) := SR.push (SR.push (SR.push (SR.nil w) rfl _ _ _) (by simp) _ _ _) (by simp) _ _ _
  have HV := Lib.hid (validR6_any a b m An cn Ae ce Bn dn Be de Mn mn Me me _ (hTa.up hS0.1) (hTb.up hS0.1) (Reads.up hm1 hS0.1) (Reads.up hm2 hS0.1) lm1 lm2)
  have HC1 := Lib.hid (fun (h1 : b.ns.length ≤ 1000) (u : World) (hu : Below w.heap.size w u) => covers_any m.ns b.ns.length Mn mn u lm1 h1 (Reads.up hm1 hu))
  have HC2 := Lib.hid (fun (h2 : b.es.length ≤ 1000) (u : World) (hu : Below w.heap.size w u) => covers_any m.es b.es.length Me me u lm2 h2 (Reads.up hm2 hu))
  have HI := Lib.hid (surB_cov a b m)
  have HZ := Lib.hid (fun h => valid_zero (mor_zero (a := a) (b := b) (m := m).1 h).vb)
  have HS0 := Lib.hid hS0
  clear hTa hTb hm1 hm2 hS0
  generalize surB a b m = R at HI ⊢
  generalize morE a b m = z at *
  generalize covB m.ns b.ns.length = k1 at *
  generalize covB m.es b.es.length = k2 at *
  go_enter Tryd.func18, Tryd.ntmps18
  go_wp2_with fail
  refine HV.out.mono ?_
  rintro e w1 ⟨rfl, hb1⟩
  have HS := Lib.hid (HS0.out.up hb1)
  clear hb1 HS0 HV
  obtain ⟨c0x, c0y⟩ := HS.out.cell (i := 0) rfl
  obtain ⟨c1x, c1y⟩ := HS.out.cell (i := 1) rfl
  obtain ⟨c2x, c2y⟩ := HS.out.cell (i := 2) rfl
  simp only [Nat.add_zero] at c0x c0y
  by_cases hz : z = 0
  case neg =>
    have t1 : ((z : Int) == 0) = false := by simp; omega
    have HR := Lib.hid (show R = false by rw [HI.out, if_neg hz])
    clear hz
    go_wp2_with fail
    go_ret
    exact ⟨ret_bool (by rw [HR.out]), HS.out.1⟩
  subst hz
  obtain ⟨l40, l80, _⟩ := HZ.out rfl
  have HC1 := Lib.hid (HC1.out (by omega))
  have HC2 := Lib.hid (HC2.out (by omega))
  clear HZ
  have HX := Lib.hid (show R = (k1 && k2) by rw [HI.out, if_pos rfl])
  clear HI
  go_wp2_with fail
  refine (HC1.out _ HS.out.1).mono ?_
  rintro e w2 ⟨rfl, rfl⟩
  cases k1
  · go_wp2_with fail
    go_ret
    exact ⟨ret_bool (by rw [HX.out]; rfl), HS.out.1⟩
  · go_wp2_with fail
    refine (HC2.out _ HS.out.1).mono ?_
    rintro e w3 ⟨rfl, rfl⟩
    go_wp2_with fail
    go_ret
    exact ⟨ret_bool (by rw [HX.out]; rfl), HS.out.1⟩

set_option maxRecDepth 100000 in
set_option maxHeartbeats 4000000 in
theorem inverseR_any (a b : Gr) (m : Mo) (An : Option Addr) (cn : Nat) (Ae : Option Addr) (ce : Nat) (Bn : Option Addr) (dn : Nat) (Be : Option Addr) (de : Nat) (Mn : Option Addr) (mn : Nat) (Me : Option Addr) (me : Nat) (w : World) (hTa : GrAt w An cn Ae ce a) (hTb : GrAt w Bn dn Be de b) (hm1 : Ints w w.heap.size Mn m.ns) (hm2 : Ints w w.heap.size Me m.es) (lm1 : m.ns.length ≤ 1000) (lm2 : m.es.length ≤ 1000) :
    Calls Tryd.prog 28 #[gval An a.ns.length cn Ae a.es.length ce, gval Bn b.ns.length dn Be b.es.length de, gval Mn m.ns.length mn Me m.es.length me] w fun e w' => (∃ v, e = .returned (.tuple #[v, .int .i64 (invE a b m : Int)]) ∧ IsM w' v (invR a b m)) ∧ Below w.heap.size w w' := by
  have hS0 : SR w _ ((((w.alloc (.cells #[.slice An a.ns.length cn, .slice Ae a.es.length ce] 25)).alloc (.cells #[.slice Bn b.ns.length dn, .slice Be b.es.length de] 25)).alloc (.cells #[.slice Mn m.ns.length mn, .slice Me m.es.length me] 27)).alloc (.cells #[.slice none 0 0, .slice none 0 0] 27)) := SR.push (SR.push (SR.push (SR.push (SR.nil w) rfl _ _ _) (by simp) _ _ _) (by simp) _ _ _) (by simp) _ _ _
  have HV := Lib.hid (validR6_any a b m An cn Ae ce Bn dn Be de Mn mn Me me _ (hTa.up hS0.1) (hTb.up hS0.1) (Reads.up hm1 hS0.1) (Reads.up hm2 hS0.1) lm1 lm2)
  have HV2 := Lib.hid (fun (u : World) (hu : Below w.heap.size w u) => injR_any a b m An cn Ae ce Bn dn Be de Mn mn Me me u (hTa.up hu) (hTb.up hu) (Reads.up hm1 hu) (Reads.up hm2 hu) lm1 lm2)
  have HV3 := Lib.hid (fun (u : World) (hu : Below w.heap.size w u) => surR_any a b m An cn Ae ce Bn dn Be de Mn mn Me me u (hTa.up hu) (hTb.up hu) (Reads.up hm1 hu) (Reads.up hm2 hu) lm1 lm2)
  have HZ := Lib.hid (fun h1 h2 => iso_len (a := a) (b := b) (m := m) h1 h2)
  have HZ1 := Lib.hid (fun h => injB_iff (a := a) (b := b) (m := m).1 h)
  have HZ2 := Lib.hid (fun h => surB_iff (a := a) (b := b) (m := m).1 h)
  have HE : Hid (invE a b m = if morE a b m ≠ 0 then morE a b m else if injB a b m = true ∧ surB a b m = true then 0 else 10) := Lib.hid rfl
  have HI : Hid (invR a b m = if invE a b m = 0 then invM b m else noM) := Lib.hid rfl
  have HS0 := Lib.hid hS0
  have HF1 := Lib.hid (fun (h : b.ns.length ≤ 1000) (u : World) (hu : Below w.heap.size w u) => back_any m.ns b.ns.length Mn mn u lm1 h (Reads.up hm1 hu))
  have HF2 := Lib.hid (fun (h : b.es.length ≤ 1000) (u : World) (hu : Below w.heap.size w u) => back_any m.es b.es.length Me me u lm2 h (Reads.up hm2 hu))
  clear hTa hTb hm1 hm2 hS0
  generalize invR a b m = R at HI ⊢
  generalize invE a b m = E at *
  generalize hi : injB a b m = i at *
  generalize hs : surB a b m = j at *
  have HZ3 := Lib.hid (fun h => mor_zero (a := a) (b := b) (m := m).1 h)
  generalize morE a b m = z at *
  clear hi hs
  go_enter Tryd.func28, Tryd.ntmps28
  go_wp2_with fail
  refine HV.out.mono ?_
  rintro e w0 ⟨rfl, hb1⟩
  have HS := Lib.hid (HS0.out.up hb1)
  clear hb1 HS0 HV
  obtain ⟨c0x, c0y⟩ := HS.out.cell (i := 0) rfl
  obtain ⟨c1x, c1y⟩ := HS.out.cell (i := 1) rfl
  obtain ⟨c2x, c2y⟩ := HS.out.cell (i := 2) rfl
  obtain ⟨c3x, c3y⟩ := HS.out.cell (i := 3) rfl
  simp only [Nat.add_zero] at c0x c0y
  have fr0 := HS.out.free (i := 3) rfl 0
  have fr1 := HS.out.free (i := 3) rfl 1
  by_cases hz : z = 0
  case neg =>
    have t1 : ((z : Int) != 0) = true := by simp; omega
    have hE : E = z := by rw [HE.out, if_pos hz]
    have HEE := Lib.hid hE
    have HR := Lib.hid (show R = noM by rw [HI.out, if_neg (by rw [hE]; exact hz)])
    clear hz hE
    go_wp2_with fail
    have hS2 := HS.out.set (i := 3) rfl (.slice none 0 0) (.slice none 0 0)
    obtain ⟨r0, r1⟩ := hS2.cell (i := 3) rfl
    refine bodyPost_ret (v := .tuple #[gval none 0 0 none 0 0, .int .i64 ((z : Nat))]) (by simp [results, Tryd.results28, go_sem, r0, r1]) rfl ?_
    exact ⟨⟨_, by rw [HEE.out], by rw [HR.out]; exact isM_nil _⟩, hS2.1⟩
  subst hz
  have HK3 := Lib.hid (HZ3.out rfl)
  clear HZ3
  have HEE := Lib.hid (show E = if i = true ∧ j = true then 0 else 10 by rw [HE.out, if_neg (fun h => h rfl)])
  clear HE
  clear c0x c0y c1x c1y c2x c2y c3x c3y fr0 fr1
  obtain ⟨c0x, c0y⟩ := HS.out.cell (i := 0) rfl
  obtain ⟨c1x, c1y⟩ := HS.out.cell (i := 1) rfl
  obtain ⟨c2x, c2y⟩ := HS.out.cell (i := 2) rfl
  obtain ⟨c3x, c3y⟩ := HS.out.cell (i := 3) rfl
  simp only [Nat.add_zero] at c0x c0y
  go_wp2_with fail
  refine (HV2.out _ HS.out.1).mono ?_
  rintro e w1 ⟨rfl, hb1⟩
  clear c0x c0y c1x c1y c2x c2y c3x c3y
  have HS := Lib.hid (HS.out.up hb1)
  clear hb1 HV2
  obtain ⟨c0x, c0y⟩ := HS.out.cell (i := 0) rfl
  obtain ⟨c1x, c1y⟩ := HS.out.cell (i := 1) rfl
  obtain ⟨c2x, c2y⟩ := HS.out.cell (i := 2) rfl
  obtain ⟨c3x, c3y⟩ := HS.out.cell (i := 3) rfl
  simp only [Nat.add_zero] at c0x c0y
  have fr0 := HS.out.free (i := 3) rfl 0
  have fr1 := HS.out.free (i := 3) rfl 1
  cases i
  case false =>
    have hE : E = 10 := by rw [HEE.out, if_neg (by simp)]
    have HE2 := Lib.hid hE
    have HR := Lib.hid (show R = noM by rw [HI.out, if_neg (by rw [hE]; decide)])
    clear hE
    go_wp2_with fail
    have hS2 := HS.out.set (i := 3) rfl (.slice none 0 0) (.slice none 0 0)
    obtain ⟨r0, r1⟩ := hS2.cell (i := 3) rfl
    refine bodyPost_ret (v := .tuple #[gval none 0 0 none 0 0, .int .i64 (10)]) (by simp [results, Tryd.results28, go_sem, r0, r1]) rfl ?_
    exact ⟨⟨_, by rw [HE2.out]; rfl, by rw [HR.out]; exact isM_nil _⟩, hS2.1⟩
  clear c0x c0y c1x c1y c2x c2y c3x c3y fr0 fr1
  obtain ⟨c0x, c0y⟩ := HS.out.cell (i := 0) rfl
  obtain ⟨c1x, c1y⟩ := HS.out.cell (i := 1) rfl
  obtain ⟨c2x, c2y⟩ := HS.out.cell (i := 2) rfl
  obtain ⟨c3x, c3y⟩ := HS.out.cell (i := 3) rfl
  simp only [Nat.add_zero] at c0x c0y
  go_wp2_with fail
  refine (HV3.out _ HS.out.1).mono ?_
  rintro e w2 ⟨rfl, hb1⟩
  clear c0x c0y c1x c1y c2x c2y c3x c3y
  have HS := Lib.hid (HS.out.up hb1)
  clear hb1 HV3
  obtain ⟨w1, hw1⟩ : ∃ x, x = w2 := ⟨_, rfl⟩
  rw [← hw1] at HS ⊢
  clear hw1
  obtain ⟨c0x, c0y⟩ := HS.out.cell (i := 0) rfl
  obtain ⟨c1x, c1y⟩ := HS.out.cell (i := 1) rfl
  obtain ⟨c2x, c2y⟩ := HS.out.cell (i := 2) rfl
  obtain ⟨c3x, c3y⟩ := HS.out.cell (i := 3) rfl
  simp only [Nat.add_zero] at c0x c0y
  have fr0 := HS.out.free (i := 3) rfl 0
  have fr1 := HS.out.free (i := 3) rfl 1
  cases j
  case false =>
    have hE : E = 10 := by rw [HEE.out, if_neg (by simp)]
    have HE2 := Lib.hid hE
    have HR := Lib.hid (show R = noM by rw [HI.out, if_neg (by rw [hE]; decide)])
    clear hE
    go_wp2_with fail
    have hS2 := HS.out.set (i := 3) rfl (.slice none 0 0) (.slice none 0 0)
    obtain ⟨r0, r1⟩ := hS2.cell (i := 3) rfl
    refine bodyPost_ret (v := .tuple #[gval none 0 0 none 0 0, .int .i64 (10)]) (by simp [results, Tryd.results28, go_sem, r0, r1]) rfl ?_
    exact ⟨⟨_, by rw [HE2.out]; rfl, by rw [HR.out]; exact isM_nil _⟩, hS2.1⟩
  have hE : E = 0 := by rw [HEE.out, if_pos ⟨by trivial, by trivial⟩]
  have HE2 := Lib.hid hE
  obtain ⟨q1, q2⟩ := HZ.out (by trivial) (by trivial)
  obtain ⟨_, i1, i2⟩ := HZ1.out (by trivial)
  obtain ⟨_, j1, j2⟩ := HZ2.out (by trivial)
  have hk := HK3.out
  obtain ⟨v40, v80, _⟩ := valid_zero hk.vb
  have HN1 := Lib.hid (HF1.out (by omega))
  have HN2 := Lib.hid (HF2.out (by omega))
  have HR : Hid (R = ⟨backL m.ns b.ns.length, backL m.es b.es.length⟩) := Lib.hid (by rw [HI.out, if_pos hE]; rfl)
  generalize backL m.ns b.ns.length = L1 at *
  generalize backL m.es b.es.length = L2 at *
  clear HZ HZ1 HZ2 HI HEE HF1 HF2 hE q1 q2 i1 i2 j1 j2 hk v40 v80
  go_wp2_with fail
  have HSd : Hid (SR w _ w1.drew) := Lib.hid (HS.out.up (below_d _))
  have HS1 : Hid ((fun u : World => u.cell? ⟨w.heap.size + 1 + 1, 0, none⟩ = some (.slice Mn m.ns.length mn) ∧ u.cell? ⟨w.heap.size + 1 + 1, 1, none⟩ = some (.slice Me m.es.length me) ∧ u.cell? ⟨w.heap.size + 1, 0, none⟩ = some (.slice Bn b.ns.length dn) ∧ u.cell? ⟨w.heap.size + 1, 1, none⟩ = some (.slice Be b.es.length de)) w1.drew) := Lib.hid ⟨c2x, c2y, c1x, c1y⟩
  have HUP : Hid (∀ u u', (fun u : World => u.cell? ⟨w.heap.size + 1 + 1, 0, none⟩ = some (.slice Mn m.ns.length mn) ∧ u.cell? ⟨w.heap.size + 1 + 1, 1, none⟩ = some (.slice Me m.es.length me) ∧ u.cell? ⟨w.heap.size + 1, 0, none⟩ = some (.slice Bn b.ns.length dn) ∧ u.cell? ⟨w.heap.size + 1, 1, none⟩ = some (.slice Be b.es.length de)) u → Below u.heap.size u u' → (fun u : World => u.cell? ⟨w.heap.size + 1 + 1, 0, none⟩ = some (.slice Mn m.ns.length mn) ∧ u.cell? ⟨w.heap.size + 1 + 1, 1, none⟩ = some (.slice Me m.es.length me) ∧ u.cell? ⟨w.heap.size + 1, 0, none⟩ = some (.slice Bn b.ns.length dn) ∧ u.cell? ⟨w.heap.size + 1, 1, none⟩ = some (.slice Be b.es.length de)) u') := Lib.hid fun u u' h hb => ⟨cell_up hb (h.1), cell_up hb (h.2.1), cell_up hb (h.2.2.1), cell_up hb (h.2.2.2)⟩
  clear c0x c0y c1x c1y c2x c2y c3x c3y fr0 fr1
  refine wp_region_noPanic ?_
  refine wp_region_held_drew (S := (fun u : World => u.cell? ⟨w.heap.size + 1 + 1, 0, none⟩ = some (.slice Mn m.ns.length mn) ∧ u.cell? ⟨w.heap.size + 1 + 1, 1, none⟩ = some (.slice Me m.es.length me) ∧ u.cell? ⟨w.heap.size + 1, 0, none⟩ = some (.slice Bn b.ns.length dn) ∧ u.cell? ⟨w.heap.size + 1, 1, none⟩ = some (.slice Be b.es.length de))) (by kernel_rfl) (HS1.out) (fun hHeld => ?_)
  refine wpAnyH_take (i := 0) (v := ?_) (oper_at (r := _) rfl) (by kernel_rfl) (by kernel_rfl) (by kernel_rfl) (fun _ _ _ h => h) (Or.inl ⟨by rfl, ?_⟩) (by assumption) ?_
  rotate_left
  · intro w hSw; try dsimp only at hSw
    go_simp
    try with_reducible rfl
  try simp only [Act.put, List.setIfInBounds_toArray, List.set_cons_zero, List.set_cons_succ]
  refine wpAnyH_take (i := 1) (v := ?_) (oper_at (r := _) rfl) (by kernel_rfl) (by kernel_rfl) (by kernel_rfl) (fun _ _ _ h => h) (Or.inl ⟨by rfl, ?_⟩) (by assumption) ?_
  rotate_left
  · intro w hSw; try dsimp only at hSw
    go_simp
    try with_reducible rfl
  try simp only [Act.put, List.setIfInBounds_toArray, List.set_cons_zero, List.set_cons_succ]
  refine wpAnyH_take (i := 2) (v := ?_) (oper_at (r := _) rfl) (by kernel_rfl) (by kernel_rfl) (by kernel_rfl) (fun _ _ _ h => h) (Or.inl ⟨by rfl, ?_⟩) (by assumption) ?_
  rotate_left
  · intro w hSw; try dsimp only at hSw
    go_simp
    try with_reducible rfl
  try simp only [Act.put, List.setIfInBounds_toArray, List.set_cons_zero, List.set_cons_succ]
  refine wpAnyH_take (i := 3) (v := ?_) (oper_at (r := _) rfl) (by kernel_rfl) (by kernel_rfl) (by kernel_rfl) (fun _ _ _ h => h) (Or.inl ⟨by rfl, ?_⟩) (by assumption) ?_
  rotate_left
  · intro w hSw; try dsimp only at hSw
    go_simp
    try with_reducible rfl
  try simp only [Act.put, List.setIfInBounds_toArray, List.set_cons_zero, List.set_cons_succ]
  refine wpAnyH_take (i := 4) (v := ?_) (oper_at (r := _) rfl) (by kernel_rfl) (by kernel_rfl) (by kernel_rfl) (fun _ _ _ h => h) (Or.inl ⟨by rfl, ?_⟩) (by assumption) ?_
  rotate_left
  · intro w hSw; try dsimp only at hSw
    go_simp
    try with_reducible rfl
  try simp only [Act.put, List.setIfInBounds_toArray, List.set_cons_zero, List.set_cons_succ]
  refine wpAnyH_take (i := 6) (v := ?_) (oper_at (r := _) rfl) (by kernel_rfl) (by kernel_rfl) (by kernel_rfl) (fun _ _ _ h => h) (Or.inl ⟨by rfl, ?_⟩) (by assumption) ?_
  rotate_left
  · intro w hSw; try dsimp only at hSw
    go_simp
    try with_reducible rfl
  try simp only [Act.put, List.setIfInBounds_toArray, List.set_cons_zero, List.set_cons_succ]
  refine wpAnyH_take (i := 7) (v := ?_) (oper_at (r := _) rfl) (by kernel_rfl) (by kernel_rfl) (by kernel_rfl) (fun _ _ _ h => h) (Or.inl ⟨by rfl, ?_⟩) (by assumption) ?_
  rotate_left
  · intro w hSw; try dsimp only at hSw
    go_simp
    try with_reducible rfl
  try simp only [Act.put, List.setIfInBounds_toArray, List.set_cons_zero, List.set_cons_succ]
  refine wpAnyH_take (i := 8) (v := ?_) (oper_at (r := _) rfl) (by kernel_rfl) (by kernel_rfl) (by kernel_rfl) (fun _ _ _ h => h) (Or.inl ⟨by rfl, ?_⟩) (by assumption) ?_
  rotate_left
  · intro w hSw; try dsimp only at hSw
    go_simp
    try with_reducible rfl
  try simp only [Act.put, List.setIfInBounds_toArray, List.set_cons_zero, List.set_cons_succ]
  refine wpAnyH_take (i := 9) (v := ?_) (oper_at (r := _) rfl) (by kernel_rfl) (by kernel_rfl) (by kernel_rfl) (fun _ _ _ h => h) (Or.inl ⟨by rfl, ?_⟩) (by assumption) ?_
  rotate_left
  · intro w hSw; try dsimp only at hSw
    go_simp
    try with_reducible rfl
  try simp only [Act.put, List.setIfInBounds_toArray, List.set_cons_zero, List.set_cons_succ]
  refine wpAnyH_take (i := 10) (v := ?_) (oper_at (r := _) rfl) (by kernel_rfl) (by kernel_rfl) (by kernel_rfl) (fun _ _ _ h => h) (Or.inl ⟨by rfl, ?_⟩) (by assumption) ?_
  rotate_left
  · intro w hSw; try dsimp only at hSw
    go_simp
    try with_reducible rfl
  try simp only [Act.put, List.setIfInBounds_toArray, List.set_cons_zero, List.set_cons_succ]
  refine wpAnyH_ready (rs := [5]) (by kernel_rfl) (by simp) ?_
  refine AllReadyH.cons (oper_at (r := _) rfl) (fun K hK => ?_) AllReadyH.nil
  go_simp
  refine (HN1.out _ HSd.out.1).mono ?_
  rintro e w2 ⟨v2, rfl, ho2, hb2⟩
  have HS2 := Lib.hid (HUP.out _ _ HS1.out hb2)
  have HLE := Lib.hid hb2.size
  have HSR2 := Lib.hid (HSd.out.up hb2)
  have HO2 := Lib.hid ho2
  obtain ⟨A2, d2, rfl⟩ := OwnE.slice ho2
  clear ho2 hb2
  go_wp2_with fail
  refine hK.out _ _ (HS2.out) (fun _ => ?_)
  clear hK K
  try simp only [Act.put, List.setIfInBounds_toArray, List.set_cons_zero, List.set_cons_succ]
  refine wpAnyH_ready (rs := [11]) (by kernel_rfl) (by simp) ?_
  refine AllReadyH.cons (oper_at (r := _) rfl) (fun K hK => ?_) AllReadyH.nil
  go_simp
  refine (HN2.out _ HSR2.out.1).mono ?_
  rintro e w3 ⟨v3, rfl, ho3, hb3⟩
  have HS3 := Lib.hid (HUP.out _ _ HS2.out hb3)
  have HSR3 := Lib.hid (HSR2.out.up hb3)
  have HOO := Lib.hid (OwnE.below HO2.out hb3 (Nat.le_refl _))
  have HO3 := Lib.hid ho3
  obtain ⟨A3, d3, rfl⟩ := OwnE.slice ho3
  clear ho3 hb3 HO2
  go_wp2_with fail
  refine hK.out _ _ (HS3.out) (fun _ => ?_)
  clear hK K
  try simp only [Act.put, List.setIfInBounds_toArray, List.set_cons_zero, List.set_cons_succ]
  refine wpAnyH_take (i := 12) (v := ?_) (oper_at (r := _) rfl) (by kernel_rfl) (by kernel_rfl) (by kernel_rfl) (fun _ _ _ h => h) (Or.inl ⟨by rfl, ?_⟩) (by assumption) ?_
  rotate_left
  · intro w hSw; try dsimp only at hSw
    go_simp
    try with_reducible rfl
  try simp only [Act.put, List.setIfInBounds_toArray, List.set_cons_zero, List.set_cons_succ]
  obtain ⟨c3x, c3y⟩ := HSR3.out.cell (i := 3) rfl
  have fr0 := HSR3.out.free (i := 3) rfl 0
  have fr1 := HSR3.out.free (i := 3) rfl 1
  have HSZ := Lib.hid (HSR3.out.set (i := 3) rfl (.slice A2 L1.length d2) (.slice A3 L2.length d3))
  obtain ⟨z1x, z1y⟩ := HSZ.out.cell (i := 1) rfl
  obtain ⟨z2x, z2y⟩ := HSZ.out.cell (i := 2) rfl
  have HS4 : Hid ((fun u : World => u.cell? ⟨w.heap.size + 1 + 1, 0, none⟩ = some (.slice Mn m.ns.length mn) ∧ u.cell? ⟨w.heap.size + 1 + 1, 1, none⟩ = some (.slice Me m.es.length me) ∧ u.cell? ⟨w.heap.size + 1, 0, none⟩ = some (.slice Bn b.ns.length dn) ∧ u.cell? ⟨w.heap.size + 1, 1, none⟩ = some (.slice Be b.es.length de)) _) := Lib.hid ⟨z2x, z2y, z1x, z1y⟩
  clear z1x z1y z2x z2y
  refine wpAnyH_ready (rs := [13]) (by kernel_rfl) (by simp) ?_
  refine AllReadyH.cons (oper_at (r := _) rfl) (fun K hK => ?_) AllReadyH.nil
  go_simp
  refine hK.out _ _ (HS4.out) (fun _ => ?_)
  clear hK K
  try simp only [Act.put, List.setIfInBounds_toArray, List.set_cons_zero, List.set_cons_succ]
  refine wpAnyH_take (i := 14) (v := ?_) (oper_at (r := _) rfl) (by kernel_rfl) (by kernel_rfl) (by kernel_rfl) (fun _ _ _ h => h) (Or.inl ⟨by rfl, ?_⟩) (by assumption) ?_
  rotate_left
  · intro w hSw; try dsimp only at hSw
    go_simp
    try with_reducible rfl
  try simp only [Act.put, List.setIfInBounds_toArray, List.set_cons_zero, List.set_cons_succ]
  refine wpAnyH_done (by kernel_rfl) ?_ _
  refine NoPanic.normal ?_
  go_wp2_with fail
  obtain ⟨r0, r1⟩ := HSZ.out.cell (i := 3) rfl
  have hlt : w.heap.size + 3 < w1.heap.size := heap_lt (HS.out.2 3 _ rfl)
  have hsd := HSR2.out.1.size
  have hle : w1.drew.heap.size ≤ w2.heap.size := HLE.out
  refine bodyPost_ret (v := .tuple #[.agg #[.slice A2 L1.length d2, .slice A3 L2.length d3], .int .i64 0]) (by simp [results, Tryd.results28, go_sem, r0, r1]) rfl ?_
  have s1 : OwnI ((w3.setCell ⟨w.heap.size + 3, 0, none⟩ (.slice A2 L1.length d2)).setCell ⟨w.heap.size + 3, 1, none⟩ (.slice A3 L2.length d3)) _ _ _ := ownsRow_setCell_below (ownsRow_setCell_below HOO.out (by show w.heap.size + 3 < w1.heap.size; exact hlt) _) (by show w.heap.size + 3 < w1.heap.size; exact hlt) _
  have s2 : OwnI ((w3.setCell ⟨w.heap.size + 3, 0, none⟩ (.slice A2 L1.length d2)).setCell ⟨w.heap.size + 3, 1, none⟩ (.slice A3 L2.length d3)) _ _ _ := ownsRow_setCell_below (ownsRow_setCell_below HO3.out (by show w.heap.size + 3 < w2.heap.size; exact Nat.lt_of_lt_of_le hlt hle) _) (by show w.heap.size + 3 < w2.heap.size; exact Nat.lt_of_lt_of_le hlt hle) _
  exact ⟨⟨_, (by rw [HE2.out]; rfl), by rw [HR.out]; exact isM_of (g := ⟨L1, L2⟩) (isI_own s1) (isI_own s2)⟩, HSZ.out.1⟩

end Go.Proofs.YtaeelanbkdkppaaDoor
