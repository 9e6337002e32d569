/-
  Difference, the program: behind.
-/
import Derived.Test.YtcmibhechhcpiaaPMat
import Derived.Test.YtcmibhechhcpiaaPStand
namespace Go.Proofs.Ytcmibhechhcpiaa
open Go.RowKit

/-- none, as far as it is written -/
def fM (i j : Nat) : Nat → Nat → Int := fun a b => if a < i ∨ (a = i ∧ b < j) then noneI else 0
theorem fM_zero : fM 0 0 = fun _ _ => 0 := by
  funext a b
  unfold fM
  rw [if_neg (by omega)]
theorem fM_set (i j : Nat) : updM (fM i j) i j noneI = fM i (j + 1) := by
  funext a b
  unfold updM fM
  by_cases h1 : a = i ∧ b = j
  · have h2 : a < i ∨ (a = i ∧ b < j + 1) := by omega
    rw [if_pos h1, if_pos h2]
  · rw [if_neg h1]
    by_cases h2 : a < i ∨ (a = i ∧ b < j)
    · have h3 : a < i ∨ (a = i ∧ b < j + 1) := by omega
      rw [if_pos h2, if_pos h3]
    · have h3 : ¬ (a < i ∨ (a = i ∧ b < j + 1)) := by omega
      rw [if_neg h2, if_neg h3]
theorem fM_row {i : Nat} {a b : Nat} (hb : b < 13) : fM i 13 a b = fM (i + 1) 0 a b := by
  unfold fM
  by_cases h1 : a < i ∨ (a = i ∧ b < 13)
  · have h2 : a < i + 1 ∨ (a = i + 1 ∧ b < 0) := by omega
    rw [if_pos h1, if_pos h2]
  · have h2 : ¬ (a < i + 1 ∨ (a = i + 1 ∧ b < 0)) := by omega
    rw [if_neg h1, if_neg h2]
theorem fM_all (s : Nat → Nat → Int) {a b : Nat} (ha : a < 13) : fM 13 0 a b = encN (fwd [] s a b) := by
  have h1 : a < 13 ∨ (a = 13 ∧ b < 0) := by omega
  have e : fwd [] s a b = far := rfl
  unfold fM
  rw [if_pos h1, e, encN_far]
theorem gen_le (l : List Arc) (s : Nat → Nat → Int) (k q i j : Nat) : genF l s k q i j ≤ far := by
  unfold genF
  split <;> exact fold_le _ _ _ _ _
theorem enc_min {v c : Int} (hv : v ≤ far) (hc : c < far) : min (encN v) c = encN (min v c) := by
  by_cases h : v < far
  · rw [encN_of h, encN_of (by omega)]
  · have e : v = far := by omega
    rw [e, encN_far, show min far c = c by omega, encN_of hc]
    unfold noneI
    unfold far at hc
    omega
theorem upd_enc (f : Nat → Nat → Int) (i j : Nat) (x : Int) (a b : Nat) : updM (fun a b => encN (f a b)) i j (encN x) a b = encN (updM f i j x a b) := by
  unfold updM
  split <;> rfl

set_option maxRecDepth 100000 in
set_option maxHeartbeats 4000000 in
theorem behind_any (l : List Arc) (A : Option Addr) (c : Nat) (s : Nat → Nat → Int) (w : World) (hl : l.length ≤ 100) (hin : ∀ a ∈ l, a.f < 13 ∧ a.g < 13) (hsm : Small l)
    (hs : ∀ i j, s i j < far → -1000000000 ≤ s i j ∧ s i j ≤ 1000000000) (hA : Reads EArc w w.heap.size A l) :
    Calls Try.prog 51 #[.agg (matA fun i j => encN (s i j)), .slice A l.length c] w fun e w' => e = .returned (.agg (matA fun i j => encN (fwd l s i j))) ∧ Below w.heap.size w w' := by
  have HA := Lib.hid hA
  have HIN := Lib.hid hin
  have HSM := Lib.hid hsm
  have HS := Lib.hid hs
  have HF1 := Lib.hid fM_set
  have HF2 := Lib.hid (fun i a b => @fM_row i a b)
  have HF3 := Lib.hid (fun a b => @fM_all s a b)
  obtain ⟨S, hS⟩ : ∃ S : Nat → Nat → Int, S = fun i j => encN (s i j) := ⟨_, rfl⟩
  rw [← hS]
  have HSE := Lib.hid hS
  clear hA hin hsm hs hS
  go_enter Try.func51, Try.ntmps51
  go_wp2_with fail
  have HK0 : Hid (Mat (((w.alloc (.cells (matA S) 85)).alloc (.cells Try.zeroCells85 85)).alloc (.cells Try.zeroCells85 85)) w.heap.size S) := Lib.hid (((Mat.new w S).alloc _).alloc _)
  go_loopw [12] (fun vi wr => ∃ i : Nat, i ≤ 13 ∧ vi = .int .i64 i ∧ Mat wr (w.heap.size + 1 + 1) (fM i 0) ∧ Mat wr (w.heap.size + 1) (fun _ _ => 0) ∧ Mat wr w.heap.size S ∧ Below w.heap.size w wr) (fun vi _ => 13 - (intOf vi).toNat)
  case atStart =>
    refine ⟨0, Nat.zero_le _, rfl, ?_, ?_, HK0.out, (((Below.refl _ _).alloc (Nat.le_refl _) _).alloc (by simp) _).alloc (by simp; omega) _⟩
    · rw [mat_zero, fM_zero]
      have h := heap_two' (w.alloc (.cells (matA S) 85)) (.cells (matA fun _ _ => 0) 85) (.cells (matA fun _ _ => 0) 85)
      rw [World.size_alloc] at h
      exact h
    · rw [mat_zero]
      have h := heap_two (w.alloc (.cells (matA S) 85)) (.cells (matA fun _ _ => 0) 85) (.cells (matA fun _ _ => 0) 85)
      rw [World.size_alloc] at h
      exact h
  case round =>
    obtain ⟨i, hi, rfl, hM, hR, hK, hb⟩ := hrel
    have HR := Lib.hid hR
    have HK := Lib.hid hK
    have HB := Lib.hid hb
    by_cases hlt : i < 13
    · have t1 : decide ((i : Int) < 13) = true := decide_eq_true (by omega)
      obtain ⟨wo, hwo⟩ : ∃ wo, wo = wr := ⟨_, rfl⟩
      subst hwo
      have HM := Lib.hid hM
      clear hM hR hK hb
      go_wp2_with fail
      go_loopw [15] (fun vj wr => ∃ j : Nat, j ≤ 13 ∧ vj = .int .i64 j ∧ Mat wr (w.heap.size + 1 + 1) (fM i j) ∧ Mat wr (w.heap.size + 1) (fun _ _ => 0) ∧ Mat wr w.heap.size S ∧ Below w.heap.size w wr) (fun vj _ => 13 - (intOf vj).toNat)
      case atStart => exact ⟨0, Nat.zero_le _, rfl, HM.out, HR.out, HK.out, HB.out⟩
      case round =>
        obtain ⟨j, hj, rfl, hM, hR, hK, hb⟩ := hrel
        have HR := Lib.hid hR
        have HK := Lib.hid hK
        have HB := Lib.hid hb
        by_cases hltj : j < 13
        · have t2 : decide ((j : Int) < 13) = true := decide_eq_true (by omega)
          have i0 : (0 : Int) ≤ (i : Int) := by omega
          have i1 : (i : Int) < 13 := by omega
          have i2 : ((i : Int)).toNat = i := by omega
          have j0 : (0 : Int) ≤ (j : Int) := by omega
          have j1 : (j : Int) < 13 := by omega
          have j2 : ((j : Int)).toNat = j := by omega
          have HX := Lib.hid (HF1.out i j)
          have c1 := hM.cell hlt hltj
          have c2 := hM.free (i * 13 + j)
          have HM := Lib.hid hM
          clear hM hR hK hb
          go_wp2_with fail
          go_roundw
          case rel => exact ⟨j + 1, by omega, by go_num, by rw [← HX.out]; exact HM.out.set hltj _, HR.out.other (show ¬ w.heap.size + 1 = w.heap.size + 1 + 1 by omega) _, HK.out.other (show ¬ w.heap.size = w.heap.size + 1 + 1 by omega) _, HB.out.setCell (by show w.heap.size ≤ w.heap.size + 1 + 1; omega) _⟩
          case measure => simp [intOf]; omega
        · have t2 : decide ((j : Int) < 13) = false := decide_eq_false (by omega)
          have e : j = 13 := by omega
          subst e
          have HM := Lib.hid (hM.ext (fun a b _ hb => HF2.out i a b hb))
          clear hM hR hK hb
          go_wp2_with fail
          go_roundw
          case rel => exact ⟨i + 1, by omega, by go_num, HM.out, HR.out, HK.out, HB.out⟩
          case measure => simp [intOf]; omega
    · have e : i = 13 := by omega
      have t1 : decide ((i : Int) < 13) = false := decide_eq_false (by omega)
      rw [e] at hM
      have HM := Lib.hid (hM.ext (fun a b ha _ => HF3.out a b ha))
      clear hM hR hK hb e
      obtain ⟨wx, hwx⟩ : ∃ wx, wx = wr := ⟨_, rfl⟩
      subst hwx
      go_wp2_with fail
      go_loopw [26] (fun vk wr => ∃ k : Nat, k ≤ l.length ∧ vk = .int .i64 k ∧ Mat wr (w.heap.size + 1 + 1) (fun i j => encN (fwd (l.take k) s i j)) ∧ Mat wr (w.heap.size + 1) (fun _ _ => 0) ∧ Mat wr w.heap.size S ∧ Below w.heap.size w wr) (fun vk _ => l.length - (intOf vk).toNat)
      case atStart => exact ⟨0, Nat.zero_le _, rfl, HM.out, HR.out, HK.out, HB.out⟩
      case round =>
        obtain ⟨k, hk, rfl, hM, hR, hK, hb⟩ := hrel
        have HR := Lib.hid hR
        have HK := Lib.hid hK
        have HB := Lib.hid hb
        by_cases hltk : k < l.length
        · obtain ⟨b, off, rfl, hbb, k0, k1, k2, k3, k4⟩ := Arcs.cells (Reads.below HA.out hb) hltk
          obtain ⟨hxf, hxg⟩ := HIN.out _ (List.getElem_mem hltk)
          have HC := Lib.hid (HSM.out _ (List.getElem_mem hltk))
          have HNO : Hid (∀ q, ¬ s l[k].g q < far → ∀ i j, genF l s k q i j = genF l s k (q + 1) i j) := Lib.hid fun q h => gen_no hltk h
          have HYES : Hid (∀ q, s l[k].g q < far → ∀ i j, updM (genF l s k q) l[k].f q (min (genF l s k q l[k].f q) (l[k].c + s l[k].g q)) i j = genF l s k (q + 1) i j) := Lib.hid fun q h => gen_yes hltk h
          have q0 : (0 : Int) ≤ (k : Int) := by omega
          have q1 : (k : Int) < (l.length : Int) := by omega
          have q2 : ((k : Int)).toNat = k := by omega
          have HM := Lib.hid hM
          have hsz := hb.size
          have hlt3 := hM.lt
          generalize l[k] = a at k0 k1 k2 k3 k4 hxf hxg HC HNO HYES
          obtain ⟨xt, xs, xf, xg, xc⟩ := a
          dsimp only at k0 k1 k2 k3 k4 hxf hxg HC HNO HYES
          obtain ⟨hc1, hc2⟩ := HC.out
          have f0 : (0 : Int) ≤ (xf : Int) := by omega
          have f1 : (xf : Int) < 13 := by omega
          have f2 : ((xf : Int)).toNat = xf := by omega
          have g0 : (0 : Int) ≤ (xg : Int) := by omega
          have g1 : (xg : Int) < 13 := by omega
          have g2 : ((xg : Int)).toNat = xg := by omega
          obtain ⟨R, hRq⟩ : ∃ R : Nat → Int, R = S xg := ⟨_, rfl⟩
          have HRG : Hid ((wr.alloc (.cells #[.int .i64 xt, .int .i64 xs, .int .i64 xf, .int .i64 xg, .int .i64 xc] 98 (0, 0))).rangeAt w.heap.size (xg * 13) (rowL R)) := Lib.hid (by rw [hRq]; exact (hK.alloc _).rangeRow hxg)
          have HRV : Hid (∀ q, R q = encN (s xg q)) := Lib.hid fun q => by rw [hRq, HSE.out]
          clear hM hR hK hb hRq
          obtain ⟨wo, hwo⟩ : ∃ wo, wo = wr := ⟨_, rfl⟩
          subst hwo
          go_wp2_with (with_reducible refine wpList_load_rowM rfl _ rfl w.heap.size (xg * 13) R rfl HRG.out ?_)
          go_loopw [34] (fun vq wr => ∃ q : Nat, q ≤ 13 ∧ vq = .int .i64 q ∧ Mat wr (w.heap.size + 1 + 1) (fun i j => encN (genF l s k q i j)) ∧ Mat wr (w.heap.size + 1) (fun _ _ => 0) ∧ Mat wr w.heap.size S ∧ Below w.heap.size w wr ∧ wr.heap[wo.heap.size]? = some (.cells #[.int .i64 xt, .int .i64 xs, .int .i64 xf, .int .i64 xg, .int .i64 xc] 98 (0, 0))) (fun vq _ => 13 - (intOf vq).toNat)
          case atStart => exact ⟨0, Nat.zero_le _, rfl, (HM.out.alloc _).ext (fun i j _ _ => by rw [gen_zero]), HR.out.alloc _, HK.out.alloc _, HB.out.alloc (by omega) _, heap_alloc_new _ _⟩
          case round =>
            obtain ⟨q, hq, rfl, hM, hR, hK, hb, hobj⟩ := hrel
            have HR := Lib.hid hR
            have HK := Lib.hid hK
            have HB := Lib.hid hb
            have HOB := Lib.hid hobj
            have HM := Lib.hid hM
            by_cases hltq : q < 13
            · have t2 : decide ((q : Int) < 13) = true := decide_eq_true (by omega)
              have q0 : (0 : Int) ≤ (q : Int) := by omega
              have q1 : (q : Int) < 13 := by omega
              have q2 : ((q : Int)).toNat = q := by omega
              have p2 : wr.cell? ⟨wo.heap.size, 2, none⟩ = some (.int .i64 xf) := by rw [cell_of_row _ _ _ _ _ _ hobj]; rfl
              have p3 : wr.cell? ⟨wo.heap.size, 3, none⟩ = some (.int .i64 xg) := by rw [cell_of_row _ _ _ _ _ _ hobj]; rfl
              have p4 : wr.cell? ⟨wo.heap.size, 4, none⟩ = some (.int .i64 xc) := by rw [cell_of_row _ _ _ _ _ _ hobj]; rfl
              have m4 := hM.cell hxf hltq
              have m5 := hM.free (xf * 13 + q)
              have HRQ := Lib.hid (HRV.out q)
              have hix : ∀ u, (Instr.index 83 (.agg (rowA R)) (.int .i64 (q : Int))).run Try.prog u = .ok (.int .i64 (R q)) u := fun u => run_index_row R hltq u
              have HGL := Lib.hid (gen_le l s k q xf q)
              have HN := Lib.hid (HNO.out q)
              have HY := Lib.hid (HYES.out q)
              have HSB := Lib.hid (HS.out xg q)
              clear hM hR hK hb hobj
              generalize R q = z at HRQ hix
              generalize s xg q = sx at HRQ HN HY HSB
              by_cases hfar : sx < far
              · obtain ⟨hs1, hs2⟩ := HSB.out hfar
                have hz : z = sx := HRQ.out.trans (encN_of hfar)
                subst hz
                have t3 : (z != 9223372036854775807) = true := by simp; omega
                have HX := Lib.hid (HY.out hfar)
                have HME := Lib.hid (enc_min HGL.out (show xc + z < far by unfold far; omega))
                generalize genF l s k q xf q = v at m4 HX HME
                generalize hcu : encN v = cu at m4 HME
                have hmin : min cu (xc + z) = if xc + z < cu then xc + z else cu := by split <;> omega
                have HMI := Lib.hid (HME.out.symm.trans hmin)
                clear HN HY hfar HSB HRQ hmin HGL hcu HME
                go_wp2_with fail
                go_still_tail 16, (by kernel_rfl)
                change wpList _ _ _ _ _ wr.drew
                go_wp2_with fail
                go_roundw
                case rel => exact ⟨q + 1, by omega, by go_num, by rw [← HMI.out]; exact (HM.out.drew.set hltq _).ext (fun i j _ _ => by rw [upd_enc, HX.out]), HR.out.drew.other (show ¬ w.heap.size + 1 = w.heap.size + 1 + 1 by omega) _, HK.out.drew.other (show ¬ w.heap.size = w.heap.size + 1 + 1 by omega) _, (Below.drew HB.out).setCell (show w.heap.size ≤ w.heap.size + 1 + 1 by omega) _, (heap_setCell_other wr.drew _ _ _ (show wo.heap.size ≠ w.heap.size + 1 + 1 by omega)).trans HOB.out⟩
                case measure => simp [intOf]; omega
              · have hz : z = 9223372036854775807 := HRQ.out.trans (by unfold encN; rw [if_neg hfar]; rfl)
                subst hz
                have HX := Lib.hid (HN.out (by omega))
                clear HN HY hfar HSB HRQ HGL
                go_wp2_with fail
                go_roundw
                case rel => exact ⟨q + 1, by omega, by go_num, HM.out.ext (fun i j _ _ => by rw [HX.out]), HR.out, HK.out, HB.out, HOB.out⟩
                case measure => simp [intOf]; omega
            · have t2 : decide ((q : Int) < 13) = false := decide_eq_false (by omega)
              have e : q = 12 + 1 := by omega
              have HM2 : Hid (Mat wr (w.heap.size + 1 + 1) (fun i j => encN (fwd (l.take (k + 1)) s i j))) := Lib.hid (hM.ext (fun i j _ hj => by rw [e, gen_all l s k i j 12 (by omega)]))
              clear hM hR hK hb hobj e
              go_wp2_with fail
              go_roundw
              case rel => exact ⟨k + 1, by omega, by go_num, HM2.out, HR.out, HK.out, HB.out⟩
              case measure => simp [intOf]; omega
        · have e : k = l.length := by omega
          rw [e, List.take_length] at hM
          have HM := Lib.hid hM
          clear hM hR hK hb
          go_wp2_with (first | (with_reducible refine wpList_load_mat rfl _ rfl (w.heap.size + 1 + 1) (fun i j => encN (fwd l s i j)) rfl HM.out.range ?_) | ((with_reducible refine wpList_store_mat rfl _ _ rfl (w.heap.size + 1) (fun i j => encN (fwd l s i j)) rfl rfl HR.out.there ?_); intro w2 hr2 hb2 _))
          exact bodyPost_ret (v := .agg (matA (fun i j => encN (fwd l s i j)))) (results_mat rfl _ _ (w.heap.size + 1) _ rfl hr2) rfl ⟨rfl, hb2 _ _ (by omega) HB.out⟩

end Go.Proofs.Ytcmibhechhcpiaa
