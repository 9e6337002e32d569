/-
  Graphs: GraphIncident.
-/
import Derived.Test.YtiafmhdicgmfaaaGLaw
import Derived.Test.YtiafmhdicgmfaaaGInc
import Derived.Test.YtiafmhdicgmfaaaGSaP
import Derived.Test.YtiafmhdicgmfaaaGCompP
import Derived.Test.YtiafmhdicgmfaaaGCompR
namespace Go.Proofs.Ytiafmhdicgmfaaa
open Go.RowKit

theorem comp_small (g : Gr) : (compR g).length ≤ 100 ∧ ∀ x ∈ compR g, x.ns.length ≤ 1000 ∧ x.es.length ≤ 1000 := by
  unfold compR
  split
  · rename_i h
    obtain ⟨l1, l2, _⟩ := valid_zero h
    constructor
    · have h1 := compTo_len g (lstS g) g.ns.length
      have h2 := Pt.rank_le (lstS g) g.ns.length
      omega
    · intro x hx
      unfold compTo at hx
      obtain ⟨r, _, rfl⟩ := List.mem_map.1 hx
      have h1 : (ndsOf (lstS g) g.ns.length r).length ≤ g.ns.length := coll_le (fun i => by split <;> simp) _
      have h2 : (edsOf g (lstS g) g.es.length r).length ≤ g.es.length := coll_le (fun i => by split <;> simp) _
      exact ⟨by show (ndsOf (lstS g) g.ns.length r).length ≤ 1000; omega, by show (edsOf g (lstS g) g.es.length r).length ≤ 1000; omega⟩
  · exact ⟨by simp, fun x hx => by simp at hx⟩

set_option maxRecDepth 100000 in
set_option maxHeartbeats 4000000 in
theorem lawIncident (g : Gr) (An : Option Addr) (cn : Nat) (Ae : Option Addr) (ce : Nat) (v : Int) (w : World) (hT : GrAt w An cn Ae ce g) :
    Calls Try.prog 7 #[gval An g.ns.length cn Ae g.es.length ce, .int .i64 v] w fun e w' => e = .returned (.bool true) ∧ Below w.heap.size w w' := by
  have HG0 := Lib.hid (GB.start hT)
  have HB0 := Lib.hid (below_a w (.cells #[.slice An g.ns.length cn, .slice Ae g.es.length ce] 25 (0, 0)))
  have HIP := Lib.hid (fun An cn Ae ce W => incP g v An cn Ae ce W)
  have HIR := Lib.hid (fun An cn Ae ce W => incR g v An cn Ae ce W)
  have HCP := Lib.hid (fun An cn Ae ce W => compP g An cn Ae ce W)
  have HCR := Lib.hid (fun An cn Ae ce W => compRf g An cn Ae ce W)
  have HCS := Lib.hid (comp_small g)
  clear hT
  generalize incE g v = R at HIP HIR
  generalize incI g v = rI at HIP HIR
  generalize incO g v = rO at HIP HIR
  generalize validE g = V at HCP HCR
  generalize compR g = ps at HCP HCR HCS
  go_enter Try.func7, Try.ntmps7
  go_wp2_with fail
  refine (awake_any _).mono ?_
  rintro e w1 ⟨rfl, hb1⟩
  have HG1 := Lib.hid (HG0.out.up hb1)
  have HB1 := Lib.hid (HB0.out.trans (hb1.mono HB0.out.size))
  clear hb1 HG0 HB0
  obtain ⟨c0, c1⟩ := HG1.out.cells
  have z0 := HG1.out.lt
  go_wp2_with fail
  refine (few_any g _ _ _ _ _ HG1.out.gr).mono ?_
  rintro e w2 ⟨rfl, hb2⟩
  have HG2 := Lib.hid (HG1.out.up hb2)
  have HB2 := Lib.hid (HB1.out.trans (hb2.mono HB1.out.size))
  clear hb2 HG1 HB1 c0 c1 z0
  cases hf : fewB g with
  | false =>
    go_wp2_with fail
    refine (awake_any _).mono ?_
    rintro e w3 ⟨rfl, hb3⟩
    have HBF := Lib.hid (HB2.out.trans (hb3.mono HB2.out.size))
    clear hb3
    go_wp2_with fail
    go_ret
    exact ⟨rfl, HBF.out⟩
  | true =>
    obtain ⟨c0, c1⟩ := HG2.out.cells
    have z0 := HG2.out.lt
    have HF := Lib.hid hf
    go_wp2_with fail
    refine (copyG_any g _ _ _ _ _ HF.out HG2.out.gr).mono ?_
    rintro e w3 ⟨⟨Cn, fn, Ce, fe, rfl, hC⟩, hb3⟩
    have HG3 := Lib.hid (HG2.out.up hb3)
    have HB3 := Lib.hid (HB2.out.trans (hb3.mono HB2.out.size))
    have HC := Lib.hid hC
    clear hb3 hC HG2 HB2 c0 c1 z0 hf
    go_wp2_with fail
    refine (HIP.out _ _ _ _ _ HC.out).mono ?_
    rintro e w4 ⟨⟨a, b, rfl, ⟨A1, k1, rfl, hr1, hl1⟩, ⟨A2, k2, rfl, hr2, hl2⟩⟩, hb4⟩
    have HG4 := Lib.hid (HG3.out.up hb4)
    have HB4 := Lib.hid (HB3.out.trans (hb4.mono HB3.out.size))
    have H1 := Lib.hid (fun W (h : Below w4.heap.size w4 W) => Reads.below hr1 h)
    have H2 := Lib.hid (fun W (h : Below w4.heap.size w4 W) => Reads.below hr2 h)
    clear hb4 hr1 hr2 HG3 HB3 HC HIP
    obtain ⟨c0, c1⟩ := HG4.out.cells
    have z0 := HG4.out.lt
    go_wp2_with fail
    refine (HIR.out _ _ _ _ _ HG4.out.gr).mono ?_
    rintro e w5 ⟨⟨a, b, rfl, ⟨A3, k3, rfl, hr3, hl3⟩, ⟨A4, k4, rfl, hr4, hl4⟩⟩, hb5⟩
    have HG5 := Lib.hid (HG4.out.up hb5)
    have HB5 := Lib.hid (HB4.out.trans (hb5.mono HB4.out.size))
    have HW5 := Lib.hid hb5
    have H3 := Lib.hid (fun W (h : Below w5.heap.size w5 W) => Reads.below hr3 h)
    have H4 := Lib.hid (fun W (h : Below w5.heap.size w5 W) => Reads.below hr4 h)
    clear hb5 hr3 hr4 HG4 HB4 HIR c0 c1 z0
    obtain ⟨c0, c1⟩ := HG5.out.cells
    have z0 := HG5.out.lt
    go_wp2_with fail
    refine (copyG_any g _ _ _ _ _ HF.out HG5.out.gr).mono ?_
    rintro e w6 ⟨⟨Xn, xn, Xe, xe, rfl, hX⟩, hb6⟩
    have HG6 := Lib.hid (HG5.out.up hb6)
    have HB6 := Lib.hid (HB5.out.trans (hb6.mono HB5.out.size))
    have HW6 := Lib.hid hb6
    have HX := Lib.hid hX
    clear hb6 hX HG5 HB5 c0 c1 z0
    go_wp2_with fail
    refine (HCP.out _ _ _ _ _ HX.out).mono ?_
    rintro e w7 ⟨⟨u, rfl, ⟨P1, p1, rfl, hP⟩⟩, hb7⟩
    have HG7 := Lib.hid (HG6.out.up hb7)
    have HB7 := Lib.hid (HB6.out.trans (hb7.mono HB6.out.size))
    have HW7 := Lib.hid (HW6.out.trans (hb7.mono HW6.out.size))
    have HP := Lib.hid hP
    clear hb7 hP HG6 HB6 HW6 HX HCP
    obtain ⟨c0, c1⟩ := HG7.out.cells
    have z0 := HG7.out.lt
    go_wp2_with fail
    refine (HCR.out _ _ _ _ _ HG7.out.gr).mono ?_
    rintro e w8 ⟨⟨u, rfl, ⟨P2, p2, rfl, hQ⟩⟩, hb8⟩
    have HB8 := Lib.hid (HB7.out.trans (hb8.mono HB7.out.size))
    have HW8 := Lib.hid (HW7.out.trans (hb8.mono HW7.out.size))
    have HP8 := Lib.hid (HP.out.up hb8)
    have HQ := Lib.hid hQ
    clear hb8 hQ HG7 HB7 HW7 HP HCR c0 c1 z0
    have tR : ((R : Int) == (R : Int)) = true := by simp
    have tV : ((V : Int) == (V : Int)) = true := by simp
    have HW48 := Lib.hid (HW5.out.trans (HW8.out.mono HW5.out.size))
    go_wp2_with fail
    refine (equal_any rI rI _ _ _ _ _ _ _ (by omega) (H1.out _ HW48.out) (H3.out _ HW8.out)).mono ?_
    rintro e w9 ⟨rfl, hb9⟩
    have HB9 := Lib.hid (HB8.out.trans (hb9.mono HB8.out.size))
    have HW9 := Lib.hid (HW8.out.trans (hb9.mono HW8.out.size))
    have HV9 := Lib.hid (HW48.out.trans (hb9.mono HW48.out.size))
    have HP9 := Lib.hid (HP8.out.up hb9)
    have HQ9 := Lib.hid (HQ.out.up hb9)
    clear hb9 HB8 HW8 HW48 HP8 HQ
    rw [decide_eq_true (p := rI = rI) rfl]
    go_wp2_with fail
    refine (equal_any rO rO _ _ _ _ _ _ _ (by omega) (H2.out _ HV9.out) (H4.out _ HW9.out)).mono ?_
    rintro e w10 ⟨rfl, hb10⟩
    have HB10 := Lib.hid (HB9.out.trans (hb10.mono HB9.out.size))
    have HP10 := Lib.hid (HP9.out.up hb10)
    have HQ10 := Lib.hid (HQ9.out.up hb10)
    clear hb10 HB9 HW9 HV9 HP9 HQ9
    rw [decide_eq_true (p := rO = rO) rfl]
    go_wp2_with fail
    refine (sameParts_any ps _ _ _ _ _ HCS.out.1 HCS.out.2 HP10.out HQ10.out).mono ?_
    rintro e w11 ⟨rfl, hb11⟩
    have HBF := Lib.hid (HB10.out.trans (hb11.mono HB10.out.size))
    clear hb11
    go_wp2_with fail
    go_ret
    exact ⟨rfl, HBF.out⟩

end Go.Proofs.Ytiafmhdicgmfaaa
