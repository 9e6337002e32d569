/-
  Graphs, the program: checkRemove.
-/
import Derived.Test.YtiafmhdicgmfaaaGAsc
import Derived.Test.YtiafmhdicgmfaaaGFr
namespace Go.Proofs.Ytiafmhdicgmfaaa
open Go.RowKit

theorem dang_and (g : Gr) (vs xs : List Int) (i : Nat) : dangAt g vs xs i = if (!decide ((i : Int) ∈ xs)) && (decide ((g.es.getD i default).fr ∈ vs) || decide ((g.es.getD i default).to ∈ vs)) then 14 else 0 := rfl

set_option maxRecDepth 100000 in
set_option maxHeartbeats 4000000 in
theorem checkRemove_any (g : Gr) (vs xs : List Int) (An : Option Addr) (cn : Nat) (Ae : Option Addr) (ce : Nat) (Av Ax : Option Addr) (cv cx : Nat) (w : World) (hT : GrAt w An cn Ae ce g) (hl1 : vs.length ≤ 1000) (hl2 : xs.length ≤ 1000) (hV : Ints w w.heap.size Av vs) (hX : Ints w w.heap.size Ax xs) :
    Calls Try.prog 50 #[gval An g.ns.length cn Ae g.es.length ce, .slice Av vs.length cv, .slice Ax xs.length cx] w fun e w' => e = .returned (.int .i64 (remE g vs xs)) ∧ Below w.heap.size w w' := by
  have he1 := hT.ce
  unfold maxLen at he1
  have HV := Lib.hid (validP_any g An cn Ae ce _ (hT.up (below_a w (.cells #[.slice An g.ns.length cn, .slice Ae g.es.length ce] 25 (0, 0)))))
  have HA1 := Lib.hid (fun u (hu : Below w.heap.size w u) => ascP_any vs g.ns.length Av w.heap.size cv u (by unfold maxLen; omega) (Reads.below hV hu))
  have HA2 := Lib.hid (fun u (hu : Below w.heap.size w u) => ascP_any xs g.es.length Ax w.heap.size cx u (by unfold maxLen; omega) (Reads.below hX hu))
  have HC1 := Lib.hid (fun y u (hu : Below w.heap.size w u) => contains_any vs y Av w.heap.size cv u (by unfold maxLen; omega) (Reads.below hV hu))
  have HC2 := Lib.hid (fun y u (hu : Below w.heap.size w u) => contains_any xs y Ax w.heap.size cx u (by unfold maxLen; omega) (Reads.below hX hu))
  have HE := Lib.hid hT.es
  have HR0 : Hid (remE g vs xs = if validE g ≠ 0 then validE g else if ascE vs g.ns.length ≠ 0 then ascE vs g.ns.length else if ascE xs g.es.length ≠ 0 then ascE xs g.es.length else fstN (dangAt g vs xs) 0 (g.es.length - 0)) := Lib.hid rfl
  have HD := Lib.hid (dang_and g vs xs)
  have HHIT := Lib.hid (fun k (h : k < g.es.length) hf => fstN_hit (f := dangAt g vs xs) h hf)
  have HPASS := Lib.hid (fun k (h : k < g.es.length) hf => fstN_pass (f := dangAt g vs xs) h hf)
  have HEND := Lib.hid (fun k (h : g.es.length ≤ k) => fstN_end (f := dangAt g vs xs) h)
  clear hT hV hX
  generalize remE g vs xs = R at HR0 ⊢
  generalize validE g = v at HV HR0
  generalize ascE vs g.ns.length = a1 at HA1 HR0
  generalize ascE xs g.es.length = a2 at HA2 HR0
  generalize dangAt g vs xs = f at HR0 HD HHIT HPASS HEND
  generalize vs.length = nv at *
  generalize xs.length = nx at *
  generalize hes : g.es = es at *
  clear hes
  generalize hns : g.ns.length = n at *
  clear hns
  go_enter Try.func50, Try.ntmps50
  go_wp2_with fail
  refine HV.out.mono ?_
  rintro e w1 ⟨rfl, hb1⟩
  have hb1' := below_one' hb1
  obtain ⟨c0, c1⟩ := box_cell hb1'
  have HB := Lib.hid hb1'
  have HBw := Lib.hid (box_below hb1')
  clear hb1 hb1'
  by_cases hv : v = 0
  case neg =>
    have HR := Lib.hid (show R = v by rw [HR0.out, if_pos hv])
    have t1 : ((v : Int) != 0) = true := by simp; omega
    clear hv
    go_wp2_with fail
    go_ret
    exact ⟨ret_int (by rw [HR.out]), HBw.out⟩
  subst hv
  have HR1 := Lib.hid (show R = if a1 ≠ 0 then a1 else if a2 ≠ 0 then a2 else fstN f 0 (es.length - 0) by rw [HR0.out, if_neg (fun h => h rfl)])
  clear HR0 HV
  go_wp2_with fail
  refine (HA1.out _ HBw.out).mono ?_
  rintro e w' ⟨rfl, rfl⟩
  by_cases hv : a1 = 0
  case neg =>
    have HR := Lib.hid (show R = a1 by rw [HR1.out, if_pos hv])
    have t1 : ((a1 : Int) != 0) = true := by simp; omega
    clear hv
    go_wp2_with fail
    go_ret
    exact ⟨ret_int (by rw [HR.out]), HBw.out⟩
  subst hv
  have HR2 := Lib.hid (show R = if a2 ≠ 0 then a2 else fstN f 0 (es.length - 0) by rw [HR1.out, if_neg (fun h => h rfl)])
  clear HR1 HA1
  go_wp2_with fail
  refine (HA2.out _ HBw.out).mono ?_
  rintro e w' ⟨rfl, rfl⟩
  by_cases hv : a2 = 0
  case neg =>
    have HR := Lib.hid (show R = a2 by rw [HR2.out, if_pos hv])
    have t1 : ((a2 : Int) != 0) = true := by simp; omega
    clear hv
    go_wp2_with fail
    go_ret
    exact ⟨ret_int (by rw [HR.out]), HBw.out⟩
  subst hv
  have HR3 := Lib.hid (show R = fstN f 0 (es.length - 0) by rw [HR2.out, if_neg (fun h => h rfl)])
  clear HR2 HA2
  go_wp2_with fail
  go_loopw [37] (fun vi wr => ∃ k : Nat, k ≤ es.length ∧ vi = .int .i64 k ∧ R = fstN f k (es.length - k) ∧ Below (w.heap.size + 1) (w.alloc (.cells #[.slice An n cn, .slice Ae es.length ce] 25 (0, 0))) wr) (fun vi _ => es.length - (intOf vi).toNat)
  case atStart => exact ⟨0, Nat.zero_le _, rfl, HR3.out, HB.out⟩
  case round =>
    clear HB HR3 HBw c0 c1
    obtain ⟨k, hk, rfl, hr, hbel⟩ := hrel
    have HR := Lib.hid hr
    obtain ⟨c0, c1⟩ := box_cell hbel
    have hs0 : w.heap.size < wr.heap.size := by have := hbel.size; simp at this; omega
    have HB := Lib.hid hbel
    have HBw := Lib.hid (box_below hbel)
    clear hr hbel
    by_cases hlt : k < es.length
    case neg =>
      have HZ := Lib.hid (show R = 0 by rw [HR.out, HEND.out k (by omega)])
      go_wp2_with fail
      go_ret
      exact ⟨ret_int (by rw [HZ.out]; rfl), HBw.out⟩
    obtain ⟨b, off, rfl, hb, hc⟩ := Eds.cells (HE.out.below HBw.out) hlt
    obtain ⟨k0, k1, k2⟩ := hc k hlt
    have HDk := Lib.hid (HD.out k)
    have HBa := Lib.hid (HBw.out.trans ((below_a wr (.cells #[.int .i64 (es.getD k default).ty, .int .i64 (es.getD k default).fr, .int .i64 (es.getD k default).to] 36 (0, 0))).mono HBw.out.size))
    have HB1 := Lib.hid (HB.out.alloc hs0 (.cells #[.int .i64 (es.getD k default).ty, .int .i64 (es.getD k default).fr, .int .i64 (es.getD k default).to] 36 (0, 0)))
    have hb9 : b < wr.heap.size := by omega
    have H1 := Lib.hid (HC1.out (es.getD k default).fr _ HBa.out)
    have H2 := Lib.hid (HC1.out (es.getD k default).to _ HBa.out)
    have H3 := Lib.hid (HC2.out (k : Int) _ HBa.out)
    have HHk := Lib.hid (HHIT.out k hlt)
    have HPk := Lib.hid (HPASS.out k hlt)
    clear hc HD HHIT HPASS HBa
    generalize es.getD k default = x at *
    generalize decide (x.fr ∈ vs) = z1 at H1 HDk
    generalize decide (x.to ∈ vs) = z2 at H2 HDk
    generalize decide ((k : Int) ∈ xs) = z3 at H3 HDk
    cases z1
    case false =>
      go_wp2_with fail
      refine H1.out.mono ?_
      rintro e w' ⟨rfl, rfl⟩
      go_wp2_with fail
      refine H2.out.mono ?_
      rintro e w' ⟨rfl, rfl⟩
      cases z2
      case false =>
        have HN := Lib.hid (show R = fstN f (k + 1) (es.length - (k + 1)) by rw [HR.out, HPk.out (by rw [HDk.out]; cases z3 <;> rfl)])
        go_wp2_with fail
        go_roundw
        case rel => exact ⟨k + 1, by omega, by go_num, HN.out, HB1.out⟩
        case measure => simp [intOf]; omega
      case true =>
        go_wp2_with fail
        refine H3.out.mono ?_
        rintro e w' ⟨rfl, rfl⟩
        cases z3
        case false =>
          have hf : f k = 14 := by rw [HDk.out]; rfl
          have HN := Lib.hid (show R = 14 by rw [HR.out, HHk.out (by omega), hf])
          clear hf
          go_wp2_with fail
          go_ret
          exact ⟨ret_int (by rw [HN.out]; rfl), box_below HB1.out⟩
        case true =>
          have HN := Lib.hid (show R = fstN f (k + 1) (es.length - (k + 1)) by rw [HR.out, HPk.out (by rw [HDk.out]; rfl)])
          go_wp2_with fail
          go_roundw
          case rel => exact ⟨k + 1, by omega, by go_num, HN.out, HB1.out⟩
          case measure => simp [intOf]; omega
    case true =>
      go_wp2_with fail
      refine H1.out.mono ?_
      rintro e w' ⟨rfl, rfl⟩
      go_wp2_with fail
      refine H3.out.mono ?_
      rintro e w' ⟨rfl, rfl⟩
      cases z3
      case false =>
        have hf : f k = 14 := by rw [HDk.out]; rfl
        have HN := Lib.hid (show R = 14 by rw [HR.out, HHk.out (by omega), hf])
        clear hf
        go_wp2_with fail
        go_ret
        exact ⟨ret_int (by rw [HN.out]; rfl), box_below HB1.out⟩
      case true =>
        have HN := Lib.hid (show R = fstN f (k + 1) (es.length - (k + 1)) by rw [HR.out, HPk.out (by rw [HDk.out]; rfl)])
        go_wp2_with fail
        go_roundw
        case rel => exact ⟨k + 1, by omega, by go_num, HN.out, HB1.out⟩
        case measure => simp [intOf]; omega

end Go.Proofs.Ytiafmhdicgmfaaa
