/-
  Graphs: SameParts of equal lists.
-/
import Derived.Test.YtiafmhdicgmfaaaGParts
import Derived.Test.YtiafmhdicgmfaaaGSl
import Derived.Deep.RegionHeld3
namespace Go.Proofs.Ytiafmhdicgmfaaa
open Go.RowKit

abbrev SP4 (b o b' o' : Nat) (u0 u1 v0 v1 : Value) (wr W : World) : Prop := (W.cell? ⟨b, o, none⟩ = some u0 ∧ W.cell? ⟨b, o + 1, none⟩ = some u1 ∧ W.cell? ⟨b', o', none⟩ = some v0 ∧ W.cell? ⟨b', o' + 1, none⟩ = some v1) ∧ Below wr.heap.size wr W
theorem SP4.mk {b o b' o' : Nat} {u0 u1 v0 v1 : Value} {wr W : World} (hb : b < wr.heap.size) (hb' : b' < wr.heap.size) (k0 : wr.cell? ⟨b, o, none⟩ = some u0) (k1 : wr.cell? ⟨b, o + 1, none⟩ = some u1) (k2 : wr.cell? ⟨b', o', none⟩ = some v0) (k3 : wr.cell? ⟨b', o' + 1, none⟩ = some v1) (h : Below wr.heap.size wr W) : SP4 b o b' o' u0 u1 v0 v1 wr W :=
  ⟨⟨(h.cell (p := ⟨b, o, none⟩) hb).trans k0, (h.cell (p := ⟨b, o + 1, none⟩) hb).trans k1, (h.cell (p := ⟨b', o', none⟩) hb').trans k2, (h.cell (p := ⟨b', o' + 1, none⟩) hb').trans k3⟩, h⟩

set_option maxRecDepth 100000 in
set_option maxHeartbeats 4000000 in
theorem sameParts_any (ps : List Mo) (A A' : Option Addr) (c c' : Nat) (w : World) (hl : ps.length ≤ 100) (hs : ∀ x ∈ ps, x.ns.length ≤ 1000 ∧ x.es.length ≤ 1000) (hA : Pts w w.heap.size A ps) (hB : Pts w w.heap.size A' ps) :
    Calls Try.prog 32 #[.slice A ps.length c, .slice A' ps.length c'] w fun e w' => e = .returned (.bool true) ∧ Below w.heap.size w w' := by
  have HA := Lib.hid hA
  have HB := Lib.hid hB
  have HS := Lib.hid hs
  clear hA hB hs
  go_enter Try.func32, Try.ntmps32
  have t1 : ((ps.length : Int) != (ps.length : Int)) = false := by simp
  go_wp2_with fail
  go_loopw [5] (fun vi wr => ∃ k : Nat, k ≤ ps.length ∧ vi = .int .i64 k ∧ Below w.heap.size w wr) (fun vi _ => ps.length - (intOf vi).toNat)
  case atStart => exact ⟨0, Nat.zero_le _, rfl, Below.refl _ _⟩
  case round =>
    obtain ⟨k, hk, rfl, hbel⟩ := hrel
    have HBL := Lib.hid hbel
    by_cases hlt : k < ps.length
    · obtain ⟨b, off, cs, rfl, hb, hr, hc⟩ := DReads.at (HA.out.up hbel) hlt
      obtain ⟨b', off', cs', rfl, hb', hr', hc'⟩ := DReads.at (HB.out.up hbel) hlt
      obtain ⟨m1, m2⟩ := HS.out _ (List.getElem_mem hlt)
      obtain ⟨A1, c1, A2, c2, rfl, r1, r2⟩ := hr
      obtain ⟨B1, d1, B2, d2, rfl, q1, q2⟩ := hr'
      have k0 := hc 0 _ rfl
      have k1 := hc 1 _ rfl
      have k2 := hc' 0 _ rfl
      have k3 := hc' 1 _ rfl
      generalize ps[k] = x at *
      simp only [show DPart.size = 2 from rfl, Nat.add_zero] at k0 k1 k2 k3
      have HM := Lib.hid (fun W (h : Below wr.heap.size wr W) => SP4.mk hb hb' k0 k1 k2 k3 h)
      have h1 := fun W (h : Below wr.heap.size wr W) => sameInts_any x.ns x.ns A1 B1 wr.heap.size wr.heap.size c1 d1 W (by unfold maxLen; omega) (r1.below h) (q1.below h)
      have h2 := fun W (h : Below wr.heap.size wr W) => sameInts_any x.es x.es A2 B2 wr.heap.size wr.heap.size c2 d2 W (by unfold maxLen; omega) (r2.below h) (q2.below h)
      rw [decide_eq_true (p := x.ns = x.ns) rfl] at h1
      rw [decide_eq_true (p := x.es = x.es) rfl] at h2
      have H1 := Lib.hid h1
      have H2 := Lib.hid h2
      have HSd := Lib.hid (HM.out _ (below_d wr))
      have hk0 : (0 : Int) ≤ (k : Int) := by omega
      have hk1 : (k : Int) < (ps.length : Int) := by omega
      have hk2 : ((k : Int)).toNat = k := by omega
      clear h1 h2 hc hc' r1 r2 q1 q2 k0 k1 k2 k3 m1 m2
      go_wp2_with fail
      go_region_held3 (SP4 b (off + k * 2) b' (off' + k * 2) (.slice A1 x.ns.length c1) (.slice A2 x.es.length c2) (.slice B1 x.ns.length d1) (.slice B2 x.es.length d2) wr)
        (first | assumption | exact HSd.out)
        ((first
          | ((with_reducible refine (H1.out _ (by first | exact HSd.out.2 | (apply And.right; assumption))).mono ?_); rintro e w3 ⟨rfl, hb3⟩; have hq3 := HM.out w3 ((show Below wr.heap.size wr _ from by first | exact HSd.out.2 | (apply And.right; assumption)).trans (hb3.mono (by first | exact HSd.out.2.size | exact (show SP4 _ _ _ _ _ _ _ _ wr _ from by assumption).2.size))))
          | ((with_reducible refine (H2.out _ (by first | exact HSd.out.2 | (apply And.right; assumption))).mono ?_); rintro e w4 ⟨rfl, hb4⟩; have hq4 := HM.out w4 (hq3.2.trans (hb4.mono hq3.2.size)))))
      have HBN := Lib.hid (HBL.out.trans (hq4.2.mono HBL.out.size))
      clear hq3 hq4 hb3 hb4
      go_wp2_with fail
      go_roundw
      case rel => exact ⟨k + 1, by omega, by go_num, HBN.out⟩
      case measure => simp [intOf]; omega
    · have e : k = ps.length := by omega
      subst e
      go_wp2_with fail
      go_ret
      exact ⟨rfl, HBL.out⟩

end Go.Proofs.Ytiafmhdicgmfaaa
