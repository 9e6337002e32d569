/-
  Difference: further of the reference.
-/
import Derived.Test.YtcmibhechhcpiaaDSquare
import Derived.BigRegion
namespace Go.Proofs.Ytcmibhechhcpiaa
open Go.RowKit

/-- k uses are done, and the columns below q of the next -/
def genF (l : List Arc) (s : Nat → Nat → Int) (k q : Nat) (i j : Nat) : Int := if j < q then fwd (l.take (k + 1)) s i j else fwd (l.take k) s i j
theorem fwd_snoc {l : List Arc} {s : Nat → Nat → Int} {k : Nat} (hk : k < l.length) (i j : Nat) : fwd (l.take (k + 1)) s i j = stepOne s i j (fwd (l.take k) s i j) l[k] := by
  unfold fwd
  rw [List.take_succ_eq_append_getElem hk, List.foldl_append]
  rfl
theorem gen_zero (l : List Arc) (s : Nat → Nat → Int) (k i j : Nat) : genF l s k 0 i j = fwd (l.take k) s i j := by
  unfold genF
  rw [if_neg (by omega)]
theorem gen_all (l : List Arc) (s : Nat → Nat → Int) (k i j n : Nat) (h : j < n + 1) : genF l s k (n + 1) i j = fwd (l.take (k + 1)) s i j := by
  unfold genF
  rw [if_pos h]
theorem gen_no {l : List Arc} {s : Nat → Nat → Int} {k q : Nat} (hk : k < l.length) (h : ¬ s l[k].g q < far) (i j : Nat) : genF l s k q i j = genF l s k (q + 1) i j := by
  unfold genF
  by_cases h1 : j < q
  · rw [if_pos h1, if_pos (by omega)]
  · rw [if_neg h1]
    by_cases h2 : j = q
    · subst h2
      rw [if_pos (by omega), fwd_snoc hk]
      unfold stepOne
      rw [if_neg (by omega)]
    · rw [if_neg (by omega)]
theorem gen_yes {l : List Arc} {s : Nat → Nat → Int} {k q : Nat} (hk : k < l.length) (h : s l[k].g q < far) (i j : Nat) :
    updM (genF l s k q) l[k].f q (min (genF l s k q l[k].f q) (l[k].c + s l[k].g q)) i j = genF l s k (q + 1) i j := by
  unfold updM genF
  by_cases h1 : i = l[k].f ∧ j = q
  · obtain ⟨h2, h3⟩ := h1
    subst h3
    rw [if_pos ⟨h2, rfl⟩, if_neg (by omega), if_pos (by omega), fwd_snoc hk, h2]
    unfold stepOne
    rw [if_pos ⟨rfl, h⟩]
  · rw [if_neg h1]
    by_cases h2 : j < q
    · rw [if_pos h2, if_pos (by omega)]
    · rw [if_neg h2]
      by_cases h3 : j = q
      · subst h3
        rw [if_pos (by omega), fwd_snoc hk]
        unfold stepOne
        rw [if_neg (by omega)]
      · rw [if_neg (by omega)]
theorem Arcs.cells {w : World} {B : Nat} {A : Option Addr} {xs : List Arc} (h : Arcs w B A xs) {k : Nat} (hk : k < xs.length) :
    ∃ b off, A = some ⟨b, off, none⟩ ∧ b < B ∧ w.cell? ⟨b, off + k * 5, none⟩ = some (.int .i64 xs[k].t) ∧ w.cell? ⟨b, off + k * 5 + 1, none⟩ = some (.int .i64 xs[k].s) ∧ w.cell? ⟨b, off + k * 5 + 2, none⟩ = some (.int .i64 xs[k].f) ∧
      w.cell? ⟨b, off + k * 5 + 3, none⟩ = some (.int .i64 xs[k].g) ∧ w.cell? ⟨b, off + k * 5 + 4, none⟩ = some (.int .i64 xs[k].c) := by
  obtain ⟨b, off, h1, h2, h3⟩ := Reads.at h hk
  exact ⟨b, off, h1, h2, h3 k hk 0 _ rfl, h3 k hk 1 _ rfl, h3 k hk 2 _ rfl, h3 k hk 3 _ rfl, h3 k hk 4 _ rfl⟩

set_option maxRecDepth 100000 in
set_option maxHeartbeats 1000000 in
theorem further_any (n : Nat) (l : List Arc) (A : Option Addr) (c : Nat) (vs : Value) (s : Nat → Nat → Int) (b0 : Nat) (w : World) (hn : n ≤ 12) (hl : l.length ≤ 1000) (hin : inN n l) (hsm : Small l)
    (hs : ∀ i j, -1000000000 ≤ s i j ∧ s i j ≤ far) (hA : Arcs w w.heap.size A l) (hM : OwnM w b0 vs (n + 1) (n + 1) s) :
    Calls Try.prog 54 #[.int .i64 n, .slice A l.length c, vs] w fun e w' => ∃ v, e = .returned v ∧ OwnM w' w.heap.size v (n + 1) (n + 1) (fwd l s) ∧ Below w.heap.size w w' := by
  have HQ := Lib.hid (fun u => square_any n far far u hn)
  have HA := Lib.hid hA
  have HM := Lib.hid hM
  have HIN := Lib.hid hin
  have HSM := Lib.hid hsm
  have HS := Lib.hid hs
  obtain ⟨Av, cv, rfl⟩ := OwnM.slice hM
  clear hA hM hin hsm hs
  go_enter Try.func54, Try.ntmps54
  go_wp2_with fail
  refine (HQ.out _).mono ?_
  rintro e w1 ⟨v, rfl, hown, hb⟩
  clear HQ
  have HO1 := Lib.hid hown
  have HB1 := Lib.hid hb
  clear hown hb
  go_wp2_with fail
  go_loopw [8] (fun i wr => ∃ k : Nat, k ≤ l.length ∧ i = .int .i64 k ∧ OwnM wr w.heap.size v (n + 1) (n + 1) (fwd (l.take k) s) ∧ Below w.heap.size w wr) (fun i _ => l.length - (intOf i).toNat)
  case atStart => exact ⟨0, Nat.zero_le _, rfl, HO1.out.ext (fun i _ j _ => by simp [sqM, fwd]), HB1.out⟩
  case round =>
    obtain ⟨k, hk, rfl, hown, hb⟩ := hrel
    by_cases hlt : k < l.length
    · obtain ⟨wo, hwo⟩ : ∃ wo, wo = wr := ⟨_, rfl⟩
      subst hwo
      have hsz := hb.size
      obtain ⟨b, off, rfl, hbb, k0, k1, k2, k3, k4⟩ := Arcs.cells (Reads.below HA.out hb) hlt
      have HI := Lib.hid (HIN.out _ (List.getElem_mem hlt))
      have HC := Lib.hid (HSM.out _ (List.getElem_mem hlt))
      have HNO : Hid (∀ q, ¬ s l[k].g q < far → ∀ i j, genF l s k q i j = genF l s k (q + 1) i j) := Lib.hid fun q h => gen_no hlt h
      have HYES : Hid (∀ q, s l[k].g q < far → ∀ i j, updM (genF l s k q) l[k].f q (min (genF l s k q l[k].f q) (l[k].c + s l[k].g q)) i j = genF l s k (q + 1) i j) := Lib.hid fun q h => gen_yes hlt h
      have HO := Lib.hid hown
      have HB := Lib.hid hb
      have hk0 : (0 : Int) ≤ (k : Int) := by omega
      have hk1 : (k : Int) < (l.length : Int) := by omega
      have hk2 : ((k : Int)).toNat = k := by omega
      generalize l[k] = a at k0 k1 k2 k3 k4 HI HC HNO HYES
      obtain ⟨xt, xs, xf, xg, xc⟩ := a
      dsimp only at k0 k1 k2 k3 k4 HI HC HNO HYES
      clear hown hb
      go_wp2_with fail
      go_loopw [10] (fun j ws => ∃ q : Nat, q ≤ n + 1 ∧ j = .int .i64 q ∧ OwnM ws w.heap.size v (n + 1) (n + 1) (genF l s k q) ∧ Below w.heap.size w ws ∧ ws.heap[wo.heap.size]? = some (.cells #[.int .i64 xt, .int .i64 xs, .int .i64 xf, .int .i64 xg, .int .i64 xc] 96 (0, 0))) (fun j _ => n + 1 - (intOf j).toNat)
      case atStart =>
        refine ⟨0, Nat.zero_le _, rfl, ?_, ?_, ?_⟩
        · exact (HO.out.alloc _).ext (fun i _ j _ => (gen_zero l s k i j).symm)
        · exact HB.out.alloc (by omega) _
        · exact heap_alloc_new _ _
      case round =>
        obtain ⟨q, hq, rfl, hown, hb, hobj⟩ := hrel
        have hsz2 := hb.size
        by_cases hlq : q ≤ n
        · have t2 : decide ((q : Int) ≤ (n : Int)) = true := decide_eq_true (by omega)
          obtain ⟨hf, hg⟩ := HI.out
          obtain ⟨hc1, hc2⟩ := HC.out
          have hms := HM.out.below hb (Nat.le_refl _)
          obtain ⟨b1, c1, g1, e1, hv, _, _, m1, mg, m3, m4, m5, m6, m7⟩ := hown.at (k := xf) (by omega)
          obtain ⟨b2, c2, g2, e2, hv2, _, _, n1, _, _, n4, _⟩ := hms.at (k := xg) (by omega)
          obtain ⟨cur, m3⟩ := m3 (by omega)
          have hne : g1 ≠ wo.heap.size := by
            intro h
            rw [h, hobj] at m3
            simp at m3
          obtain ⟨hs1, hs2⟩ := HS.out xg q
          have m4 := m4 q (by omega)
          have n4 := n4 q (by omega)
          have m5 := m5 q
          have HM6 := Lib.hid (m6 q)
          have HMG := Lib.hid mg
          have HNE := Lib.hid hne
          have HLO := Lib.hid (Array.getElem?_eq_some_iff.1 hobj).1
          have HM7 := Lib.hid (m7 q)
          have HN := Lib.hid (HNO.out q)
          have HY := Lib.hid (HYES.out q)
          have p2 : wr.cell? ⟨wo.heap.size, 2, none⟩ = some (.int .i64 xf) := by rw [cell_of_row _ _ _ _ _ _ hobj]; rfl
          have p3 : wr.cell? ⟨wo.heap.size, 3, none⟩ = some (.int .i64 xg) := by rw [cell_of_row _ _ _ _ _ _ hobj]; rfl
          have p4 : wr.cell? ⟨wo.heap.size, 4, none⟩ = some (.int .i64 xc) := by rw [cell_of_row _ _ _ _ _ _ hobj]; rfl
          have HOB := Lib.hid hobj
          have HO2 := Lib.hid hown
          have HB2 := Lib.hid hb
          simp only [Value.slice.injEq] at hv2
          obtain ⟨rfl, _, rfl⟩ := hv2
          subst hv
          clear hobj hown hb hms m6 m7 m3 mg
          have q0 : (0 : Int) ≤ (q : Int) := by omega
          have q1 : (q : Int) < (n : Int) + 1 := by omega
          have q2 : ((q : Int)).toNat = q := by omega
          have f0 : (0 : Int) ≤ (xf : Int) := by omega
          have f1 : (xf : Int) < (n : Int) + 1 := by omega
          have f2 : ((xf : Int)).toNat = xf := by omega
          have g0 : (0 : Int) ≤ (xg : Int) := by omega
          have g1' : (xg : Int) < (n : Int) + 1 := by omega
          have g2' : ((xg : Int)).toNat = xg := by omega
          unfold far at hs2 HN HY
          generalize s xg q = sx at n4 hs1 hs2 HN HY
          generalize genF l s k q xf q = cu at m4 HY
          by_cases hfar : sx < 1125899906842624
          · have t3 : decide (sx < 1125899906842624) = true := decide_eq_true hfar
            have hmin : min cu (xc + sx) = if xc + sx < cu then xc + sx else cu := by split <;> omega
            have HX := Lib.hid (HY.out hfar)
            rw [hmin] at HX
            clear HY HN hfar hmin
            go_wp2_with fail
            go_still_tail 27, (by kernel_rfl)
            change wpList _ _ _ _ _ wr.drew
            go_wp2_with fail
            go_roundw
            case rel => exact ⟨q + 1, by omega, by go_num, ((HM6.out _).below (Below.drew (Below.refl _ _)) (Nat.le_refl _)).ext (fun i _ j _ => HX.out i j), Below.drew (HB2.out.setCell (p := ⟨g1, q, none⟩) HMG.out _), ((HM7.out _).block wo.heap.size HLO.out (fun h => HNE.out (by simpa using h.symm))).trans HOB.out⟩
            case measure => simp [intOf]; omega
          · have t3 : decide (sx < 1125899906842624) = false := decide_eq_false hfar
            have HX := Lib.hid (HN.out (by omega))
            clear HY HN hfar
            go_wp2_with fail
            go_roundw
            case rel => exact ⟨q + 1, by omega, by go_num, HO2.out.ext (fun i _ j _ => HX.out i j), HB2.out, HOB.out⟩
            case measure => simp [intOf]; omega
        · have t2 : decide ((q : Int) ≤ (n : Int)) = false := decide_eq_false (by omega)
          have e : q = n + 1 := by omega
          subst e
          have HO2 := Lib.hid (hown.ext (fun i _ j hj => gen_all l s k i j n hj))
          have HB2 := Lib.hid hb
          clear hown hb hobj
          go_wp2_with fail
          go_roundw
          case rel => exact ⟨k + 1, by omega, by go_num, HO2.out, HB2.out⟩
          case measure => simp [intOf]; omega
    · have e : k = l.length := by omega
      subst e
      go_wp2_with fail
      go_ret
      exact ⟨_, rfl, by rw [List.take_length] at hown; exact hown, hb⟩

end Go.Proofs.Ytcmibhechhcpiaa
