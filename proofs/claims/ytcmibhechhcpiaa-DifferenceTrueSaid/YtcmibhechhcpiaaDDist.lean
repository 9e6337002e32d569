/-
  Difference: distances of the reference.
-/
import Derived.Test.YtcmibhechhcpiaaDFur
namespace Go.Proofs.Ytcmibhechhcpiaa
open Go.RowKit

theorem sumK_bnd {l : List Arc} (hs : Small l) {k : Nat} (hk : k ≤ 100) (i j : Nat) : -1000000000 ≤ sumK l k i j ∧ sumK l k i j ≤ far := by
  have h1 := (sumK_spec hs k hk i j).1
  rcases h1 with h1 | ⟨r, hr, hl, hw⟩
  · rw [h1]; unfold far; omega
  · have := wt_small hs hr
    rw [hl] at this
    rw [← hw]
    unfold far
    omega
def genB (l : List Arc) (k i q a b : Nat) : Int := if a < i ∨ (a = i ∧ b < q) then bestK l (k + 1) a b else bestK l k a b
theorem genB_zero (l : List Arc) (k a b : Nat) : genB l k 0 0 a b = bestK l k a b := by
  unfold genB
  rw [if_neg (by omega)]
theorem genB_step (l : List Arc) (k i q a b : Nat) : updM (genB l k i q) i q (min (genB l k i q i q) (sumK l (k + 1) i q)) a b = genB l k i (q + 1) a b := by
  unfold updM genB
  by_cases h : a = i ∧ b = q
  · obtain ⟨rfl, rfl⟩ := h
    rw [if_pos ⟨rfl, rfl⟩, if_neg (by omega), if_pos (by omega)]
    rfl
  · rw [if_neg h]
    by_cases h2 : a < i ∨ (a = i ∧ b < q)
    · rw [if_pos h2, if_pos (by omega)]
    · rw [if_neg h2, if_neg (by omega)]
theorem genB_row (l : List Arc) (k i n a b : Nat) (h : b < n + 1) : genB l k i (n + 1) a b = genB l k (i + 1) 0 a b := by
  unfold genB
  by_cases h2 : a < i + 1 ∨ (a = i + 1 ∧ b < 0)
  · rw [if_pos h2, if_pos (by omega)]
  · rw [if_neg h2, if_neg (by omega)]
theorem genB_all (l : List Arc) (k n a b : Nat) (h : a < n + 1) : genB l k (n + 1) 0 a b = bestK l (k + 1) a b := by
  unfold genB
  rw [if_pos (by omega)]
theorem OwnE.read {α : Type} {E : El α} {t : TypeId} {w : World} {base n c : Nat} {A : Option Addr} {xs : List α} (h : OwnE E t w base (.slice A n c) xs) : Reads E w w.heap.size A xs := by
  obtain ⟨A', c', e, r⟩ := h.reads
  simp only [Value.slice.injEq] at e
  rw [e.1]
  exact r

set_option maxHeartbeats 2000000 in
theorem distances_any (n : Nat) (xs : List Tst) (A : Option Addr) (c : Nat) (w : World) (hn : n ≤ 12) (hl : xs.length ≤ 500) (hg : ∀ x ∈ xs, Good n x) (hT : Tsts w w.heap.size A xs) :
    Calls Try.prog 43 #[.int .i64 n, .slice A xs.length c] w fun e w' => Below w.heap.size w w' ∧
      ((OkB n (arcsL xs) ∧ ∃ v, e = .returned (.tuple #[v, .bool true]) ∧ OwnM w' w.heap.size v (n + 1) (n + 1) (dst n (arcsL xs))) ∨
        (¬ OkB n (arcsL xs) ∧ e = .returned (.tuple #[.slice none 0 0, .bool false]))) := by
  have HAR := Lib.hid (arcs_any n xs A c w (by omega) hg (by omega) hT)
  have hin := arcs_in hg
  have hsm := arcs_small hg
  have hle := arcsF_len xs xs.length
  rw [show ((n : Int)).toNat = n by omega] at hin
  have hll : (arcsL xs).length ≤ 1000 := by unfold arcsL; omega
  have HQ := Lib.hid (fun u => square_any n far 0 u hn)
  have HS0 := Lib.hid (show sqM far 0 = sumK (arcsL xs) 0 by funext i j; rfl)
  clear hT hg hle
  generalize arcsL xs = l at HAR hin hsm hll HS0 ⊢
  have HF := Lib.hid (fun (A : Option Addr) (c : Nat) (vs : Value) (k : Nat) (hk : k ≤ 100) (b0 : Nat) (u : World) (h1 : Arcs u u.heap.size A l) (h2 : OwnM u b0 vs (n + 1) (n + 1) (sumK l k)) =>
    further_any n l A c vs (sumK l k) b0 u hn hll hin hsm (sumK_bnd hsm hk) h1 h2)
  clear hin hsm
  go_enter Try.func43, Try.ntmps43
  go_wp2_with fail
  refine HAR.out.mono ?_
  rintro e w1 ⟨va, rfl, ha, hb1⟩
  obtain ⟨Aa, ca, rfl⟩ := OwnE.slice ha
  have HA1 := Lib.hid ha
  have HB1 := Lib.hid hb1
  clear HAR ha hb1
  go_wp2_with fail
  refine (HQ.out _).mono ?_
  rintro e w2 ⟨vb, rfl, hb, hb2⟩
  have HM2 := Lib.hid (hb.mono HB1.out.size)
  have HA2 := Lib.hid (HA1.out.below hb2 (Nat.le_refl _))
  have HB2 := Lib.hid (HB1.out.trans (hb2.mono HB1.out.size))
  clear hb hb2
  go_wp2_with fail
  refine (HQ.out _).mono ?_
  rintro e w3 ⟨vc, rfl, hc, hb3⟩
  have HM3 := Lib.hid (HM2.out.below hb3 (Nat.le_refl _))
  have HA3 := Lib.hid (HA2.out.below hb3 (Nat.le_refl _))
  have HB3 := Lib.hid (HB2.out.trans (hb3.mono HB2.out.size))
  have HC3 := Lib.hid (hc.mono HB2.out.size)
  clear hc hb3 HQ HA1 HB1 HM2 HA2 HB2
  go_wp2_with fail
  go_loopw [8, 9] (fun vn kk wr => ∃ k : Nat, k ≤ n + 2 ∧ kk = .int .i64 k ∧ OwnA wr w.heap.size (.slice Aa l.length ca) l ∧ OwnM wr w.heap.size vb (n + 1) (n + 1) (bestK l k) ∧ OwnM wr w.heap.size vn (n + 1) (n + 1) (sumK l k) ∧ Below w.heap.size w wr) (fun _ kk _ => n + 2 - (intOf kk).toNat)
  case atStart => exact ⟨0, Nat.zero_le _, rfl, HA3.out, HM3.out.ext (fun i _ j _ => by rw [HS0.out]; rfl), HC3.out.ext (fun i _ j _ => by rw [HS0.out]), HB3.out⟩
  case round =>
    obtain ⟨wo, hwo⟩ : ∃ wo, wo = wr := ⟨_, rfl⟩
    subst hwo
    obtain ⟨k, hk, rfl, ha, ⟨hs, hbest⟩, hnow, hb⟩ := hrel
    have hsz := hb.size
    by_cases hlt : k ≤ n + 1
    · have t1 : decide ((k : Int) ≤ (n : Int) + 1) = true := decide_eq_true (by omega)
      have HFK := Lib.hid (HF.out Aa ca _ k (by omega) _ wo ha.read hnow)
      have HTOP : Hid (∀ (i : Nat) (x : Nat × Nat), hs[i]? = some x → x.1 < wo.heap.size) := Lib.hid fun i x hi => hbest.top hi
      have HA := Lib.hid ha
      have HH := Lib.hid hbest
      have HB := Lib.hid hb
      clear ha hbest hnow hb HA3 HM3 HB3 HC3
      go_wp2_with fail
      refine HFK.out.mono ?_
      rintro e w4 ⟨vd, rfl, hd, hb4⟩
      have HD := Lib.hid (hd.ext (g := sumK l (k + 1)) (fun i _ j _ => rfl))
      have HA4 := Lib.hid (HA.out.below hb4 (Nat.le_refl _))
      have HH4 := Lib.hid (HH.out.below hb4 (Nat.le_refl _))
      have HB4 := Lib.hid (HB.out.trans (hb4.mono hsz))
      clear HFK hd hb4 HA HH HB
      go_wp2_with fail
      go_loopw [10] (fun ii ws => ∃ i : Nat, i ≤ n + 1 ∧ ii = .int .i64 i ∧ OwnA ws w.heap.size (.slice Aa l.length ca) l ∧ OwnH hs ws w.heap.size vb (n + 1) (n + 1) (genB l k i 0) ∧ OwnM ws wo.heap.size vd (n + 1) (n + 1) (sumK l (k + 1)) ∧ Below w.heap.size w ws) (fun ii _ => n + 1 - (intOf ii).toNat)
      case atStart => exact ⟨0, Nat.zero_le _, rfl, HA4.out, HH4.out.ext (fun i _ j _ => (genB_zero l k i j).symm), HD.out, HB4.out⟩
      case round =>
        obtain ⟨i, hi, rfl, ha, hbest, hnow, hb⟩ := hrel
        clear HA4 HH4 HB4 HD
        by_cases hli : i ≤ n
        · have t2 : decide ((i : Int) ≤ (n : Int)) = true := decide_eq_true (by omega)
          have HA := Lib.hid ha
          have HH := Lib.hid hbest
          have HD := Lib.hid hnow
          have HB := Lib.hid hb
          clear ha hbest hnow hb
          go_wp2_with fail
          go_loopw [11] (fun jj ws => ∃ q : Nat, q ≤ n + 1 ∧ jj = .int .i64 q ∧ OwnA ws w.heap.size (.slice Aa l.length ca) l ∧ OwnH hs ws w.heap.size vb (n + 1) (n + 1) (genB l k i q) ∧ OwnM ws wo.heap.size vd (n + 1) (n + 1) (sumK l (k + 1)) ∧ Below w.heap.size w ws) (fun jj _ => n + 1 - (intOf jj).toNat)
          case atStart => exact ⟨0, Nat.zero_le _, rfl, HA.out, HH.out, HD.out, HB.out⟩
          case round =>
            obtain ⟨q, hq, rfl, ha, hbest, hnow, hb⟩ := hrel
            clear HA HH HD HB
            by_cases hlq : q ≤ n
            · have t3 : decide ((q : Int) ≤ (n : Int)) = true := decide_eq_true (by omega)
              obtain ⟨b1, c1, g1, e1, hv, _, _, m1, mg, _, m4, m5, m6, m7, m8, m9⟩ := hbest.at (k := i) (by omega)
              obtain ⟨b2, c2, g2, e2, hv2, _, _, n1, _, _, n4, _⟩ := hnow.at (k := i) (by omega)
              have hgt := HTOP.out _ _ m8
              have HAK := Lib.hid (fun x => ha.kept (m7 q x) (own_apart (by decide) ha m9))
              have HDK := Lib.hid (fun x => hnow.kept (m7 q x) hgt)
              have HMK := Lib.hid (m6 q)
              have HBK := Lib.hid (fun x => hb.setCell (p := ⟨g1, q, none⟩) mg x)
              have HST := Lib.hid (genB_step l k i q)
              have m4 := m4 q (by omega)
              have n4 := n4 q (by omega)
              have m5 := m5 q
              subst hv hv2
              clear ha hbest hnow hb m6 m7 m8 m9 mg hgt
              have q0 : (0 : Int) ≤ (q : Int) := by omega
              have q1 : (q : Int) < (n : Int) + 1 := by omega
              have q2 : ((q : Int)).toNat = q := by omega
              have f0 : (0 : Int) ≤ (i : Int) := by omega
              have f1 : (i : Int) < (n : Int) + 1 := by omega
              have f2 : ((i : Int)).toNat = i := by omega
              generalize sumK l (k + 1) i q = sx at n4 HST
              generalize genB l k i q i q = cu at m4 HST
              have hmin : min cu sx = if sx < cu then sx else cu := by split <;> omega
              rw [hmin] at HST
              clear hmin
              go_wp2_with fail
              go_region
              go_wp2_with fail
              go_roundw
              case rel => exact ⟨q + 1, by omega, by go_num, (HAK.out _).below (Below.drew (Below.refl _ _)) (Nat.le_refl _), ((HMK.out _).below (Below.drew (Below.refl _ _)) (Nat.le_refl _)).ext (fun a _ b _ => HST.out a b), (HDK.out _).below (Below.drew (Below.refl _ _)) (Nat.le_refl _), Below.drew (HBK.out _)⟩
              case measure => simp [intOf]; omega
            · have t3 : decide ((q : Int) ≤ (n : Int)) = false := decide_eq_false (by omega)
              have e : q = n + 1 := by omega
              subst e
              have HA := Lib.hid ha
              have HH := Lib.hid (hbest.ext (fun a _ b hb => genB_row l k i n a b hb))
              have HD := Lib.hid hnow
              have HB := Lib.hid hb
              clear ha hbest hnow hb
              go_wp2_with fail
              go_roundw
              case rel => exact ⟨i + 1, by omega, by go_num, HA.out, HH.out, HD.out, HB.out⟩
              case measure => simp [intOf]; omega
        · have t2 : decide ((i : Int) ≤ (n : Int)) = false := decide_eq_false (by omega)
          have e : i = n + 1 := by omega
          subst e
          have HA := Lib.hid ha
          have HH := Lib.hid (hbest.ext (fun a ha b _ => genB_all l k n a b ha))
          have HD := Lib.hid (hnow.mono hsz)
          have HB := Lib.hid hb
          clear ha hbest hnow hb
          go_wp2_with fail
          go_roundw
          case rel => exact ⟨k + 1, by omega, by go_num, HA.out, ⟨hs, HH.out⟩, HD.out, HB.out⟩
          case measure => simp [intOf]; omega
    · have t1 : decide ((k : Int) ≤ (n : Int) + 1) = false := decide_eq_false (by omega)
      have e : k = n + 2 := by omega
      subst e
      have HM := Lib.hid (show OwnM wo w.heap.size vb (n + 1) (n + 1) (dst n l) from ⟨hs, hbest⟩)
      have HB := Lib.hid hb
      clear ha hbest hnow hb HF
      go_wp2_with fail
      go_loopw [12] (fun ii ws => ∃ i : Nat, i ≤ n + 1 ∧ ii = .int .i64 i ∧ OwnM ws w.heap.size vb (n + 1) (n + 1) (dst n l) ∧ Below w.heap.size w ws ∧ ∀ a, a < i → 0 ≤ dst n l a a) (fun ii _ => n + 1 - (intOf ii).toNat)
      case atStart => exact ⟨0, Nat.zero_le _, rfl, HM.out, HB.out, fun a ha => by omega⟩
      case round =>
        obtain ⟨i, hi, rfl, hM, hb, hok⟩ := hrel
        by_cases hli : i ≤ n
        · have t2 : decide ((i : Int) ≤ (n : Int)) = true := decide_eq_true (by omega)
          obtain ⟨b1, c1, g1, e1, hv, _, _, m1, _, _, m4, _⟩ := hM.at (k := i) (by omega)
          have m4 := m4 i (by omega)
          have HM' := Lib.hid hM
          have HB' := Lib.hid hb
          have HOK := Lib.hid hok
          subst hv
          clear hM hb hok HM HB
          have f0 : (0 : Int) ≤ (i : Int) := by omega
          have f1 : (i : Int) < (n : Int) + 1 := by omega
          have f2 : ((i : Int)).toNat = i := by omega
          by_cases hneg : dst n l i i < 0
          · have HX : Hid (¬ OkB n l) := Lib.hid fun h => by have := h i hli; omega
            generalize dst n l i i = z at m4 hneg
            have t3 : decide (z < 0) = true := decide_eq_true hneg
            go_wp2_with fail
            go_ret2
            exact ⟨HB'.out, .inr ⟨HX.out, rfl⟩⟩
          · have HX : Hid (∀ a, a < i + 1 → 0 ≤ dst n l a a) := Lib.hid fun a ha => by
              by_cases e : a = i
              · subst e; omega
              · exact HOK.out a (by omega)
            generalize dst n l i i = z at m4 hneg
            have t3 : decide (z < 0) = false := decide_eq_false hneg
            clear hneg
            go_wp2_with fail
            go_roundw
            case rel => exact ⟨i + 1, by omega, by go_num, HM'.out, HB'.out, HX.out⟩
            case measure => simp [intOf]; omega
        · have t2 : decide ((i : Int) ≤ (n : Int)) = false := decide_eq_false (by omega)
          have HX : Hid (OkB n l) := Lib.hid fun a ha => hok a (by omega)
          have HM' := Lib.hid hM
          have HB' := Lib.hid hb
          clear hM hb hok
          go_wp2_with fail
          go_ret2
          exact ⟨HB'.out, .inl ⟨HX.out, _, rfl, HM'.out⟩⟩

end Go.Proofs.Ytcmibhechhcpiaa
