/-
  Difference, the program: lower, greatest.
-/
import Derived.Test.YtcmibhechhcpiaaPLinks
import Derived.Test.YtcmibhechhcpiaaDFur
namespace Go.Proofs.Ytcmibhechhcpiaa
open Go.RowKit

set_option maxRecDepth 100000 in
set_option maxHeartbeats 2000000 in
theorem lower_any (m : Nat) (l : List Arc) (A : Option Addr) (c g cc base : Nat) (v : Nat → Int) (w : World) (hl : l.length ≤ 1000) (hin : ∀ a ∈ l, a.f < m ∧ a.g < m) (hsm : Small l)
    (hlo : ∀ i, -1000000000000000 ≤ v i) (hhi : ∀ i, v i ≤ 0) (hA : Reads EArc w base A l) (hb : base ≤ w.heap.size) (hown : OwnI w base (.slice (some ⟨g, 0, none⟩) m cc) (rowI m v)) :
    Calls Try.prog 60 #[.slice (some ⟨g, 0, none⟩) m cc, .slice A l.length c] w fun e w' => e = .returned (.bool (changes v l)) ∧ OwnI w' base (.slice (some ⟨g, 0, none⟩) m cc) (rowI m (lows v l)) ∧ Below base w w' := by
  have HA := Lib.hid hA
  have HIN := Lib.hid hin
  have HSM := Lib.hid hsm
  have HLO : Hid (∀ (k i : Nat), k ≤ l.length → -1000002000001000 ≤ lows v (l.take k) i ∧ lows v (l.take k) i ≤ 0) := Lib.hid fun k i hk => by
    have h1 := lows_low (l.take k) (v := v) (B := 1000000000000000) (fun a ha => hsm a (List.mem_of_mem_take ha)) (fun i => by have := hlo i; omega) i
    have h2 := lows_le (l.take k) v i
    have h3 := hhi i
    rw [List.length_take] at h1
    omega
  have HO := Lib.hid hown
  clear hA hin hsm hlo hhi hown
  go_enter Try.func60, Try.ntmps60
  go_wp2_with fail
  go_loopw [5, 11] (fun ch i wr => ∃ k : Nat, k ≤ l.length ∧ i = .int .i64 k ∧ ch = .bool (changes v (l.take k)) ∧ OwnI wr base (.slice (some ⟨g, 0, none⟩) m cc) (rowI m (lows v (l.take k))) ∧ Below base w wr) (fun _ i _ => l.length - (intOf i).toNat)
  case atStart => exact ⟨0, Nat.zero_le _, rfl, by simp [changes], by simpa [lows] using HO.out, Below.refl _ _⟩
  case round =>
    obtain ⟨k, hk, rfl, rfl, hown, hbr⟩ := hrel
    by_cases hlt : k < l.length
    · obtain ⟨b, off, rfl, hbb, k0, k1, k2, k3, k4⟩ := Arcs.cells (Reads.below HA.out hbr) hlt
      obtain ⟨i1, i2⟩ := HIN.out _ (List.getElem_mem hlt)
      obtain ⟨c1, c2⟩ := HSM.out _ (List.getElem_mem hlt)
      obtain ⟨v1, v2⟩ := HLO.out k l[k].g (by omega)
      have HE : Hid (lows v (l.take (k + 1)) = relax (lows v (l.take k)) l[k]) := Lib.hid (by rw [take_snoc hlt, lows_snoc])
      have HC : Hid (changes v (l.take (k + 1)) = (changes v (l.take k) || moves (lows v (l.take k)) l[k])) := Lib.hid (by rw [take_snoc hlt, changes_snoc])
      have hk0 : (0 : Int) ≤ (k : Int) := by omega
      have hk1 : (k : Int) < (l.length : Int) := by omega
      have hk2 : ((k : Int)).toNat = k := by omega
      generalize l[k] = a at k0 k1 k2 k3 k4 i1 i2 c1 c2 v1 v2 HE HC
      generalize lows v (l.take k) = V at hown HE HC v1 v2
      generalize changes v (l.take k) = ch at HC
      obtain ⟨xt, xs, xf, xg, xc⟩ := a
      dsimp only at k0 k1 k2 k3 k4 i1 i2 c1 c2 v1 v2
      have hlen : m = (rowI m V).length := (rowI_length _ _).symm
      have hown' : OwnI (wr.alloc (.cells #[.int .i64 xt, .int .i64 xs, .int .i64 xf, .int .i64 xg, .int .i64 xc] 98 (0, 0))) base (.slice (some ⟨g, 0, none⟩) m cc) (rowI m V) := OwnE.alloc hown _
      have mg := OwnI.cell hlen hown' i2
      have mf := OwnI.cell hlen hown' i1
      have fr := OwnI.free hlen hown' xf
      rw [rowI_getD _ i2] at mg
      rw [rowI_getD _ i1] at mf
      have f0 : (0 : Int) ≤ (xf : Int) := by omega
      have f1 : (xf : Int) < (m : Int) := by omega
      have f2 : ((xf : Int)).toNat = xf := by omega
      have g0 : (0 : Int) ≤ (xg : Int) := by omega
      have g1' : (xg : Int) < (m : Int) := by omega
      have g2' : ((xg : Int)).toNat = xg := by omega
      have HB := Lib.hid hbr
      have hbz := hbr.size
      have HO2 := Lib.hid hown'
      have HLen := Lib.hid hlen
      have hgb : base ≤ g := (OwnE.lt hown g rfl).1
      clear hown hown' hbr hlen
      by_cases hmv : V xg + xc < V xf
      · have HE2 : Hid (rowI m (lows v (l.take (k + 1))) = (rowI m V).set xf (V xg + xc)) := Lib.hid (by
          rw [HE.out, rowI_set]
          refine rowI_ext fun j _ => ?_
          unfold relax
          dsimp only
          by_cases hj : j = xf
          · rw [if_pos ⟨hj, hmv⟩, if_pos hj]
          · rw [if_neg (fun h => hj h.1), if_neg hj])
        have HC2 : Hid (changes v (l.take (k + 1)) = true) := Lib.hid (by rw [HC.out]; unfold moves; dsimp only; rw [decide_eq_true hmv, Bool.or_true])
        have t3 : decide (V xg + xc < V xf) = true := decide_eq_true hmv
        clear HE HC hmv
        generalize V xg = vg at mg v1 v2 HE2 t3
        generalize V xf = vf at mf t3
        go_wp2_with fail
        go_quiet (fail)
        go_wp2_with fail
        go_roundw
        case rel => exact ⟨k + 1, by omega, by go_num, by rw [HC2.out], by rw [HE2.out]; exact (OwnI.set HLen.out (HO2.out.below (below_draws (Below.refl _ _) _) (Nat.le_refl _)) xf _).1, (below_draws (HB.out.alloc (by omega) _) _).setCell (p := ⟨g, xf, none⟩) hgb _⟩
        case measure => simp [intOf]; omega
      · have HE2 : Hid (rowI m (lows v (l.take (k + 1))) = rowI m V) := Lib.hid (by
          rw [HE.out]
          refine rowI_ext fun j _ => ?_
          unfold relax
          dsimp only
          rw [if_neg (fun h => hmv h.2)])
        have HC2 : Hid (changes v (l.take (k + 1)) = ch) := Lib.hid (by rw [HC.out]; unfold moves; dsimp only; rw [decide_eq_false hmv, Bool.or_false])
        have t3 : decide (V xg + xc < V xf) = false := decide_eq_false hmv
        clear HE HC hmv
        generalize V xg = vg at mg v1 v2 HE2 t3
        generalize V xf = vf at mf t3
        go_wp2_with fail
        go_quiet (fail)
        go_wp2_with fail
        go_roundw
        case rel => exact ⟨k + 1, by omega, by go_num, by rw [HC2.out], by rw [HE2.out]; exact HO2.out.below (below_draws (Below.refl _ _) _) (Nat.le_refl _), below_draws (HB.out.alloc (by omega) _) _⟩
        case measure => simp [intOf]; omega
    · have e : k = l.length := by omega
      subst e
      rw [List.take_length] at hown
      have HC : Hid (changes v (l.take l.length) = changes v l) := Lib.hid (by rw [List.take_length])
      have HO2 := Lib.hid hown
      have HB := Lib.hid hbr
      clear hown hbr
      go_wp2_with fail
      go_ret
      exact ⟨ret_bool HC.out, HO2.out, HB.out⟩

end Go.Proofs.Ytcmibhechhcpiaa
