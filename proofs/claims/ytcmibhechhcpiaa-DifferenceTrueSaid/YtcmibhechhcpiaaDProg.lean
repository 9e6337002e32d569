/-
  Difference, the program: shortest, over a contract of complete.
  Difference, the program: Refute, over a contract of complete.
  Difference: the program keeps its contracts, over a contract of complete.
  Difference: the program keeps its contracts.
-/
import Derived.Test.YtcmibhechhcpiaaPTop
import Derived.Test.YtcmibhechhcpiaaPValid
import Derived.Test.YtcmibhechhcpiaaPSolve
import Derived.Test.YtcmibhechhcpiaaPRed
import Derived.Test.YtcmibhechhcpiaaPImp
import Derived.Test.YtcmibhechhcpiaaPChk
import Derived.Test.YtcmibhechhcpiaaPHold
import Derived.Test.YtcmibhechhcpiaaDPc
import Derived.Test.YtcmibhechhcpiaaPComp
namespace Go.Proofs.Ytcmibhechhcpiaa
open Go.RowKit

/-- what shortest answers -/
def ShortEnd (base : Nat) (us : List (Int × Int)) (e : Ending) (w' : World) : Prop :=
  (us = [] ∧ e = .returned (.slice none 0 0)) ∨ us ≠ [] ∧ ∃ g c, e = .returned (.slice (some ⟨g, 0, none⟩) us.length c) ∧ OwnU w' base (.slice (some ⟨g, 0, none⟩) us.length c) us
theorem OwnE.caps {α : Type} {E : El α} {t : TypeId} {w : World} {base n g c : Nat} {xs : List α} (h : OwnE E t w base (.slice (some ⟨g, 0, none⟩) n c) xs) : n ≤ c ∧ c ≤ maxLen := by
  rcases h.2 with ⟨h, _⟩ | ⟨g', cap, cur, h, _, _, h1, h2, _⟩
  · cases h
  · cases h
    exact ⟨h1, h2⟩
/-- what is asked of complete -/
def CompC (l : List Arc) (K : Nat) : Prop := ∀ (a : Arc) (A : Option Addr) (c bw cw : Nat) (u : World), a ∈ l → firstP l K a = true → K + 1 ≤ cw → cw ≤ maxLen → Reads EArc u u.heap.size A l → Reads EMat u u.heap.size (some ⟨bw, 0, none⟩) (walksL l K) →
  Calls Try.prog 65 #[.slice (some ⟨bw, 0, none⟩) (K + 1) cw, .slice A l.length c, aval a] u fun e w' => (∃ v, e = .returned v ∧ OwnU w' u.heap.size v (usesOf (a :: greedy l K a.g a.f a.c))) ∧ Below u.heap.size u w'

set_option maxRecDepth 100000 in
set_option maxHeartbeats 2000000 in
theorem shortest_any (l : List Arc) (K : Nat) (A : Option Addr) (c bw cw : Nat) (w : World) (hcp : CompC l K) (hK : K ≤ 12) (hcw : K + 1 ≤ cw) (hcw2 : cw ≤ maxLen) (hl : l.length ≤ 100) (hin : ∀ a ∈ l, a.f < 13 ∧ a.g < 13) (hsm : Small l)
    (hL : Reads EArc w w.heap.size A l) (hM : Reads EMat w w.heap.size (some ⟨bw, 0, none⟩) (walksL l K)) :
    Calls Try.prog 50 #[.slice (some ⟨bw, 0, none⟩) (K + 1) cw, .slice A l.length c] w fun e w' => ShortEnd w.heap.size (usesOf (top l K)) e w' ∧ Below w.heap.size w w' := by
  have HL := Lib.hid hL
  have HM := Lib.hid hM
  have HIN := Lib.hid hin
  have HSM := Lib.hid hsm
  have HCP := Lib.hid (fun a A c u ha hp h1 h2 => hcp a A c bw cw u ha hp hcw hcw2 h1 h2)
  have HFIT := Lib.hid (fun i j h => sumK_fit hsm (k := K) (i := i) (j := j) (by omega) h)
  clear hL hM hin hsm hcp hcw hcw2
  have k0 : (0 : Int) ≤ (K : Int) := by omega
  have k1 : (K : Int) < (K : Int) + 1 := by omega
  have k2 : ((K : Int)).toNat = K := by omega
  have k3 : (K : Int) + 1 - 1 = (K : Int) := by omega
  go_enter Try.func50, Try.ntmps50
  go_wp2_with fail
  go_loopw [10] (fun vi wr => ∃ i : Nat, i ≤ l.length ∧ vi = .int .i64 i ∧ Below w.heap.size w wr ∧ (∀ x ∈ l.take i, firstP l K x = false)) (fun vi _ => l.length - (intOf vi).toNat)
  case atStart => exact ⟨0, Nat.zero_le _, rfl, Below.refl _ _, fun x hx => by simp at hx⟩
  case round =>
    obtain ⟨i, hi, rfl, hb, hno⟩ := hrel
    have HB := Lib.hid hb
    have HN := Lib.hid hno
    by_cases hlt : i < l.length
    · obtain ⟨b, off, rfl, hbb, m0, m1, m2, m3, m4⟩ := Arcs.cells (Reads.below HL.out hb) hlt
      have hmem := List.getElem_mem hlt
      obtain ⟨f1, g1⟩ := HIN.out l[i] hmem
      obtain ⟨c1, c2⟩ := HSM.out l[i] hmem
      have HYES : Hid (firstP l K l[i] = true → top l K = l[i] :: greedy l K l[i].g l[i].f l[i].c) := Lib.hid fun h => top_some (find_at hlt hno h)
      have HNO : Hid (firstP l K l[i] = false → ∀ x ∈ l.take (i + 1), firstP l K x = false) := Lib.hid fun h x hx => by
        rw [List.take_succ_eq_append_getElem hlt, List.mem_append] at hx
        rcases hx with hx | hx
        · exact hno x hx
        · simp at hx; rw [hx]; exact h
      have HCA := Lib.hid (fun A c u hp h1 h2 => HCP.out (l[i]'hlt) A c u hmem hp h1 h2)
      have q0 : (0 : Int) ≤ (i : Int) := by omega
      have q1 : (i : Int) < (l.length : Int) := by omega
      have q2 : ((i : Int)).toNat = i := by omega
      generalize l[i] = x at m0 m1 m2 m3 m4 f1 g1 c1 c2 HYES HNO HCA
      obtain ⟨xt, xs, xf, xg, xc⟩ := x
      have HPE := Lib.hid (firstP_eq l K xt xs xf xg xc)
      dsimp only at m0 m1 m2 m3 m4 f1 g1 c1 c2
      have hsz := hb.size
      have HB' : Hid (Below w.heap.size w (wr.alloc (.cells #[.int .i64 xt, .int .i64 xs, .int .i64 xf, .int .i64 xg, .int .i64 xc] 98 (0, 0)))) := Lib.hid (hb.alloc hsz _)
      have z0 : (wr.alloc (.cells #[.int .i64 xt, .int .i64 xs, .int .i64 xf, .int .i64 xg, .int .i64 xc] 98 (0, 0))).cell? ⟨bw, K * 169 + xg * 13 + xf, none⟩ = some (.int .i64 (sumE l K xg xf)) := Reads.matCell (HM.out.below HB'.out) (Nat.le_refl _) g1 f1
      have f0 : (0 : Int) ≤ (xf : Int) := by omega
      have f1' : (xf : Int) < 13 := by omega
      have f2 : ((xf : Int)).toNat = xf := by omega
      have g0 : (0 : Int) ≤ (xg : Int) := by omega
      have g1' : (xg : Int) < 13 := by omega
      have g2 : ((xg : Int)).toNat = xg := by omega
      have HF := Lib.hid (HFIT.out xg xf)
      have HE : Hid (sumE l K xg xf = encN (sumK l K xg xf)) := Lib.hid rfl
      generalize sumE l K xg xf = z at z0 HE
      generalize sumK l K xg xf = s at HE HF HPE
      clear hb hno hmem
      by_cases hs : s < far
      · obtain ⟨s1, s2⟩ := HF.out hs
        have e : z = s := by rw [HE.out]; exact encN_of hs
        subst e
        have t1 : ((z : Int) != 9223372036854775807) = true := by simp; omega
        by_cases hneg : xc + z < 0
        · have t2 : decide (xc + z < 0) = true := decide_eq_true hneg
          have hp : firstP l K ⟨xt, xs, xf, xg, xc⟩ = true := by rw [HPE.out, decide_eq_true hs, t2]; rfl
          have HT := Lib.hid (HYES.out hp)
          have HC2 := Lib.hid (fun u hb => HCA.out (some ⟨b, off, none⟩) c u hp (Reads.mono (HL.out.below hb) hb.size) (Reads.mono (HM.out.below hb) hb.size))
          clear hp HYES HNO HCA HPE HF HE hs hneg
          go_wp2_with fail
          go_region
          go_wp2_with fail
          refine (HC2.out _ (Below.drew HB'.out)).mono ?_
          rintro e w2 ⟨⟨v, rfl, hown⟩, hb2⟩
          have HR : Hid (ShortEnd w.heap.size (usesOf (top l K)) (.returned v) w2 ∧ Below w.heap.size w w2) := Lib.hid (by
            refine ⟨.inr ?_, (Below.drew HB'.out).trans (hb2.mono (by simp; omega))⟩
            rw [HT.out]
            obtain ⟨g, c', e, _, _⟩ := OwnE.pos hown (by simp [usesOf])
            rw [e] at hown ⊢
            exact ⟨by simp [usesOf], g, c', rfl, hown.mono (by simp; omega)⟩)
          clear hown hb2 HT
          go_wp2_with fail
          go_ret
          exact HR.out
        · have t2 : decide (xc + z < 0) = false := decide_eq_false hneg
          have HX := Lib.hid (HNO.out (by rw [HPE.out, t2, Bool.and_false]))
          clear HYES HNO HCA HPE HF HE hs hneg
          go_wp2_with fail
          go_region
          go_wp2_with fail
          go_roundw
          case rel => exact ⟨i + 1, by omega, by go_num, Below.drew HB'.out, HX.out⟩
          case measure => simp [intOf]; omega
      · have e : z = 9223372036854775807 := by rw [HE.out]; exact if_neg hs
        subst e
        have HX := Lib.hid (HNO.out (by rw [HPE.out, decide_eq_false hs, Bool.false_and]))
        clear HYES HNO HCA HPE HF HE hs
        go_wp2_with fail
        go_region
        go_wp2_with fail
        go_roundw
        case rel => exact ⟨i + 1, by omega, by go_num, Below.drew HB'.out, HX.out⟩
        case measure => simp [intOf]; omega
    · have e : i = l.length := by omega
      have HT : Hid (top l K = []) := Lib.hid (by rw [e] at hno; exact top_of_no hno)
      clear hb hno
      go_wp2_with fail
      go_ret
      exact ⟨.inl ⟨by rw [HT.out]; rfl, rfl⟩, HB.out⟩

end Go.Proofs.Ytcmibhechhcpiaa

namespace Go.Proofs.Ytcmibhechhcpiaa
open Go.RowKit

def CompAll : Prop := ∀ (l : List Arc) (K : Nat), K ≤ 12 → l.length ≤ 100 → (∀ a ∈ l, a.f < 13 ∧ a.g < 13) → Small l → Sorted l → CompC l K

set_option maxRecDepth 100000 in
set_option maxHeartbeats 4000000 in
theorem prefute_any (hcp : CompAll) (n : Int) (xs : List Tst) (A : Option Addr) (c : Nat) (w : World) (hl : xs.length ≤ maxLen) (hT : Tsts w w.heap.size A xs) :
    Calls Try.prog 22 #[.int .i64 n, .slice A xs.length c] w fun e w' => Below w.heap.size w w' ∧
      ((validS n xs ≠ 0 ∧ e = .returned (.tuple #[.slice none 0 0, .int .i64 (validS n xs)])) ∨
       (validS n xs = 0 ∧ OkB n.toNat (arcsL xs) ∧ e = .returned (.tuple #[.slice none 0 0, .int .i64 10])) ∨
       (validS n xs = 0 ∧ ¬ OkB n.toNat (arcsL xs) ∧ ∃ v r, e = .returned (.tuple #[v, .int .i64 0]) ∧ OwnU w' w.heap.size v (usesOf r) ∧ IsStd (arcsL xs) r ∧ r.length ≤ 13)) := by
  have HV := Lib.hid (pvalid_any n xs A c w hl hT)
  have HT := Lib.hid hT
  by_cases hv : validS n xs = 0
  · obtain ⟨⟨hn0, hn12⟩, hl40, hg⟩ := validS_zero.1 hv
    obtain ⟨m, rfl⟩ : ∃ m : Nat, n = m := ⟨n.toNat, by omega⟩
    rw [hv] at HV
    have hin := arcs_in hg
    have hsm := arcs_small hg
    have hso : Sorted (arcsL xs) := sorted_arcs xs xs.length
    rw [show ((m : Int)).toNat = m by omega] at hin ⊢
    have hm : m ≤ 12 := by omega
    have HAR := Lib.hid (fun u hu => links_any m xs A c u (by omega) hg (by omega) hu)
    have hle := arcsF_len xs xs.length
    have hll : (arcsL xs).length ≤ 100 := by unfold arcsL; omega
    have hv0 := hv
    clear hT hg hv hn0 hn12 hle
    generalize arcsL xs = l at HAR hin hsm hso hll ⊢
    have hin13 : ∀ a ∈ l, a.f < 13 ∧ a.g < 13 := fun a ha => by have := hin a ha; omega
    have HST := Lib.hid (fun u => standing_any l u)
    have HBE : Hid (∀ (K : Nat) (A : Option Addr) (c : Nat) (u : World), K ≤ 13 → Reads EArc u u.heap.size A l → Calls Try.prog 51 #[.agg (matA (sumE l K)), .slice A l.length c] u fun e w' => e = .returned (.agg (matA (sumE l (K + 1)))) ∧ Below u.heap.size u w') :=
      Lib.hid fun K A c u hK hA => behind_any l A c (sumK l K) u hll hin13 hsm (fun i j h => sumK_fit hsm hK h) hA
    have HSH := Lib.hid (fun (K : Nat) (A : Option Addr) (c bw cw : Nat) (u : World) (hK : K ≤ 12) hcw hcw2 hL hM => shortest_any l K A c bw cw u (hcp l K hK hll hin13 hsm hso) hK hcw hcw2 hll hin13 hsm hL hM)
    have HYES := Lib.hid (fun (K : Nat) (hK : K ≤ 12) h2 h => top_yes (K := K) hin hm hsm hso hK h2 h)
    have HNO := Lib.hid (fun (K : Nat) (hK : K ≤ 13) h2 h => top_no (K := K) hin hsm hso hK h2 h)
    have HOK := Lib.hid (ok_of_none hin hm hsm)
    have HZ := Lib.hid (hasNeg_zero m l)
    have HWS := Lib.hid (walksL_succ l)
    clear hcp hin hsm hso hin13
    go_enter Try.func22, Try.ntmps22
    go_wp2_with fail
    refine HV.out.mono ?_
    rintro e w1 ⟨rfl, hb1⟩
    have HT1 := Lib.hid (Reads.up HT.out hb1)
    have HB1 := Lib.hid hb1
    clear hb1
    go_wp2_with fail
    refine (HAR.out _ HT1.out).mono ?_
    rintro e w2 ⟨va, rfl, ha, hb2⟩
    obtain ⟨Aa, ca, rfl⟩ := OwnE.slice ha
    have HB2 := Lib.hid (HB1.out.trans (hb2.mono HB1.out.size))
    have HA2 := Lib.hid (ha.mono HB1.out.size)
    clear ha hb2 HT1
    go_wp2_with fail
    refine (HST.out _).mono ?_
    rintro e w3 ⟨rfl, hb3⟩
    have HB3 := Lib.hid (HB2.out.trans (hb3.mono HB2.out.size))
    have HA3 := Lib.hid (HA2.out.below hb3 (Nat.le_refl _))
    have hsz3 := HB3.out.size
    clear hb3 HA2
    go_wp2_with (with_reducible refine wpList_build_mat rfl _ rfl (sumE l 0) rfl ?_)
    go_loopw [8, 22] (fun vs ii wr => ∃ K : Nat, K ≤ m + 1 ∧ ii = .int .i64 K ∧ OwnWk wr w.heap.size vs (walksL l K) ∧ OwnK wr w.heap.size (.slice Aa l.length ca) l ∧ Below w.heap.size w wr ∧ (∀ j, j ≤ K → ¬ hasNeg m l j)) (fun _ ii _ => m + 1 - (intOf ii).toNat)
    case atStart =>
      refine ⟨0, Nat.zero_le _, rfl, own_one (Mat.new _ _) hsz3, HA3.out.alloc _, HB3.out.alloc hsz3 _, fun j hj => ?_⟩
      rw [show j = 0 by omega]
      exact HZ.out
    case round =>
      obtain ⟨K, hK, rfl, hS, hA, hB, hno⟩ := hrel
      have hsz := hB.size
      obtain ⟨bw, cw, rfl, hbw, _⟩ := OwnE.pos hS (by rw [walksL_length]; omega)
      rw [walksL_length] at hS ⊢
      by_cases hlt : K < m + 1
      · have t1 : decide ((K : Int) < (m : Int) + 1) = true := decide_eq_true (by omega)
        obtain ⟨hcw, hcw2⟩ := OwnE.caps hS
        have HSK := Lib.hid (HSH.out K Aa ca bw cw wr (by omega) hcw hcw2 hA.read hS.read)
        have HBK := Lib.hid (fun u hu => HBE.out K Aa ca u (by omega) hu)
        have HYK := Lib.hid (HYES.out K (by omega) hno)
        have HNK := Lib.hid (HNO.out K (by omega) hno)
        have HWK := Lib.hid (HWS.out K)
        have HS := Lib.hid hS
        have HA := Lib.hid hA
        have HB := Lib.hid hB
        have k0 : (0 : Int) ≤ (K : Int) := by omega
        have k1 : (K : Int) < (K : Int) + 1 := by omega
        have k2 : ((K : Int)).toNat = K := by omega
        have k3 : (K : Int) + 1 - 1 = (K : Int) := by omega
        clear hS hA hB hno hcw hcw2
        go_wp2_with fail
        refine HSK.out.mono ?_
        rintro e w5 ⟨hend, hb5⟩
        have HB5 := Lib.hid (HB.out.trans (hb5.mono hsz))
        rcases hend with ⟨hu, rfl⟩ | ⟨hu, g, c', rfl, hown⟩
        · have HX := Lib.hid (HNK.out (by
            cases hq : top l K with
            | nil => rfl
            | cons a r => rw [hq] at hu; simp [usesOf] at hu))
          have HS5 := Lib.hid (HS.out.below hb5 (Nat.le_refl _))
          have HA5 := Lib.hid (HA.out.below hb5 (Nat.le_refl _))
          have HR5 := Lib.hid (Reads.matRange HS5.out.read (Nat.le_refl K))
          have hsz5 := HB5.out.size
          clear hu hb5 HS HA HB HYK HNK HSK
          go_wp2_with (with_reducible refine wpList_load_matAt rfl _ rfl bw (K * 169) (sumE l K) rfl HR5.out ?_)
          refine (HBK.out _ HA5.out.read).mono ?_
          rintro e w6 ⟨rfl, hb6⟩
          have HB6 := Lib.hid (HB5.out.trans (hb6.mono hsz5))
          have HS6 := Lib.hid (HS5.out.below hb6 (Nat.le_refl _))
          have HA6 := Lib.hid (HA5.out.below hb6 (Nat.le_refl _))
          have hsz6 := HB6.out.size
          clear hb6 HS5 HA5 HR5 k0 k1 k2 k3
          go_wp2_with (first | (with_reducible refine wpList_build_mat rfl _ rfl (sumE l (K + 1)) rfl ?_) | (at_builtin; refine wpList_append_matA (w := World.alloc _ _) rfl _ _ rfl w.heap.size _ (walksL l K) rfl ?y1 w6.heap.size 1 (sumE l (K + 1)) rfl ?y2 ?y3 ?y4 ?_))
          case y1 => exact HS6.out.alloc _
          case y2 => exact heap_alloc_new _ _
          case y3 => rw [walksL_length]; omega
          case y4 => simp; omega
          intro v7 w7 hown7 hg7 hb7
          have HA7 := Lib.hid ((HA6.out.alloc (.cells (matA (sumE l (K + 1))) 85 (0, 0))).kept hg7 (own_apart (by decide) (HA6.out.alloc _) (HS6.out.alloc (.cells (matA (sumE l (K + 1))) 85 (0, 0)))))
          have HS7 := Lib.hid (hown7.cast HWK.out.symm)
          have HB7 := Lib.hid ((HB6.out.alloc hsz6 _).trans hb7)
          clear hown7 hg7 hb7
          go_wp2_with fail
          go_roundw
          case rel => exact ⟨K + 1, by omega, by go_num, HS7.out, HA7.out, HB7.out, HX.out⟩
          case measure => simp [intOf]; omega
        · have HX := Lib.hid (HYK.out (by
            intro hq
            rw [hq] at hu
            exact hu rfl))
          have HO := Lib.hid (hown.mono hsz)
          clear hu hb5 hown HSK HYK HNK
          go_wp2_with fail
          go_ret2
          exact ⟨HB5.out, .inr (.inr ⟨hv0, HX.out.2.2, _, top l K, rfl, HO.out, HX.out.1, HX.out.2.1⟩)⟩
      · have t1 : decide ((K : Int) < (m : Int) + 1) = false := decide_eq_false (by omega)
        have HX := Lib.hid (HOK.out (fun j hj => hno j (by omega)))
        have HB' := Lib.hid hB
        clear hS hA hB hno
        go_wp2_with fail
        go_ret2
        exact ⟨HB'.out, .inr (.inl ⟨hv0, HX.out, rfl⟩)⟩
  · generalize validS n xs = e1 at HV hv ⊢
    have t1 : ((e1 : Int) != 0) = true := by simp; omega
    clear hT
    go_enter Try.func22, Try.ntmps22
    go_wp2_with fail
    refine HV.out.mono ?_
    rintro e w1 ⟨rfl, hb1⟩
    have HB1 := Lib.hid hb1
    clear hb1
    go_wp2_with fail
    go_ret2
    exact ⟨HB1.out, .inl ⟨hv, rfl⟩⟩

end Go.Proofs.Ytcmibhechhcpiaa

namespace Go.Proofs.Ytcmibhechhcpiaa
open Go.RowKit

theorem valP : ValC 16 := fun n xs A c w _ _ hl hT => pvalid_any n xs A c w (by unfold maxLen; omega) hT
theorem solP : SolC 13 := by
  intro n xs A c w _ _ hl hT
  refine (psolve_any n xs A c w (by unfold maxLen; omega) hT).mono ?_
  rintro e w' ⟨hb, ⟨h1, rfl⟩ | ⟨h1, h2, rfl⟩ | ⟨h1, h2, v, rfl, h3⟩⟩
  · have e1 : solR n xs = [] := by unfold solR; rw [if_neg (fun h => h1 h.1)]
    have e2 : solE n xs = validS n xs := by unfold solE; rw [if_pos h1]
    rw [e1, e2]
    exact ⟨none, 0, rfl, .inl rfl, hb⟩
  · have e1 : solR n xs = [] := by unfold solR; rw [if_neg (fun h => h2 h.2)]
    have e2 : solE n xs = 10 := by unfold solE; rw [if_neg (fun h => h h1), if_neg h2]
    rw [e1, e2]
    exact ⟨none, 0, rfl, .inl rfl, hb⟩
  · have e1 : solR n xs = solS n.toNat (arcsL xs) := by unfold solR; rw [if_pos ⟨h1, h2⟩]
    have e2 : solE n xs = 0 := by unfold solE; rw [if_neg (fun h => h h1), if_pos h2]
    obtain ⟨A', c', rfl, hR⟩ := OwnE.reads h3
    rw [e1, e2]
    exact ⟨A', c', rfl, hR, hb⟩
theorem refP (hcp : CompAll) : RefC 22 := by
  intro n xs A c w _ _ hl hT
  refine (prefute_any hcp n xs A c w (by unfold maxLen; omega) hT).mono ?_
  rintro e w' ⟨hb, ⟨h1, rfl⟩ | ⟨h1, h2, rfl⟩ | ⟨h1, h2, v, r, rfl, h3, h4, h5⟩⟩
  · have e2 : refE n xs = validS n xs := by unfold refE; rw [if_pos h1]
    rw [e2]
    exact ⟨[], none, 0, ⟨fun h => absurd h.1 h1, fun _ => rfl⟩, rfl, .inl rfl, hb⟩
  · have e2 : refE n xs = 10 := by unfold refE; rw [if_neg (fun h => h h1), if_pos h2]
    rw [e2]
    exact ⟨[], none, 0, ⟨fun h => absurd h2 h.2, fun _ => rfl⟩, rfl, .inl rfl, hb⟩
  · have e2 : refE n xs = 0 := by unfold refE; rw [if_neg (fun h => h h1), if_neg h2]
    obtain ⟨A', c', rfl, hR⟩ := OwnE.reads h3
    rw [e2]
    exact ⟨usesOf r, A', c', ⟨fun _ => ⟨r, h4, rfl, h5⟩, fun h => absurd ⟨h1, h2⟩ h⟩, rfl, hR, hb⟩
theorem chkP : ChkC 25 := by
  intro n xs A c r A2 c2 w _ _ _ hl hr hT hR
  refine (pcheck_any n xs A c r A2 c2 w (by unfold maxLen; omega) (by unfold maxLen; omega) hT hR).mono ?_
  rintro e w' ⟨hb, rfl⟩
  exact ⟨rfl, hb⟩
theorem holP : HolC 21 := fun x vs A c w _ h1 h2 h3 _ hT => pholds_any x vs A c w h1 h2 h3 hT
theorem impP : ImpC 32 := by
  intro n xs A c x w _ _ _ hl hT
  refine (pImplies_any n xs A c x w (by unfold maxLen; omega) hT).mono ?_
  rintro e w' ⟨hb, ⟨h1, rfl⟩ | ⟨h1, h2, rfl⟩ | ⟨h1, h2, b, rfl, h3⟩⟩
  · have e2 : impE n xs x = validS n xs := by unfold impE; rw [if_pos h1]
    rw [e2]
    exact ⟨false, ⟨fun h => absurd h.1 h1, fun _ => rfl⟩, rfl, hb⟩
  · have e2 : impE n xs x = oneS n x := by unfold impE; rw [if_neg (fun h => h h1)]
    rw [e2]
    exact ⟨false, ⟨fun h => absurd h.2 h2, fun _ => rfl⟩, rfl, hb⟩
  · have e2 : impE n xs x = 0 := by unfold impE; rw [if_neg (fun h => h h1), h2]
    rw [e2]
    exact ⟨b, ⟨fun _ => h3, fun h => absurd ⟨h1, h2⟩ h⟩, rfl, hb⟩
theorem redP : RedC 34 := by
  intro n xs A c w _ _ hl hT
  refine (preduce_any n xs A c w (by unfold maxLen; omega) hT).mono ?_
  rintro e w' ⟨hb, ⟨h1, rfl⟩ | ⟨h1, v, res, rfl, h3, h4⟩⟩
  · exact ⟨[], none, 0, ⟨fun h => absurd h h1, fun _ => rfl⟩, rfl, .inl rfl, hb⟩
  · obtain ⟨A', c', rfl, hR⟩ := OwnE.reads h3
    rw [h1]
    exact ⟨res, A', c', ⟨fun _ => h4, fun h => absurd h1 h⟩, rfl, hR, hb⟩

theorem pcOf (hcp : CompAll) : PC := ⟨valP, solP, refP hcp, chkP, holP, impP, redP⟩

end Go.Proofs.Ytcmibhechhcpiaa

namespace Go.Proofs.Ytcmibhechhcpiaa
open Go.RowKit

theorem compAll : CompAll := by
  intro l K hK hl hin hsm ho a A c bw cw u ha hp hcw hcw2 hL hM
  exact complete_any l a A c bw cw K u (by omega) hcw hcw2 hl hin hsm ho ha (fun k i j hk h => sumK_fit hsm hk h) hL hM (compl_of_first hsm (by omega) hp)
theorem pc : PC := pcOf compAll

end Go.Proofs.Ytcmibhechhcpiaa
