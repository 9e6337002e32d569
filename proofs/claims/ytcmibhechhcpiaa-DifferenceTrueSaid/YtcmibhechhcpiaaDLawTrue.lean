/-
  DifferenceTrue: for all values, all codes and every code the law returns true. No condition.
-/
import Derived.Test.YtcmibhechhcpiaaDTru
import Derived.Test.YtcmibhechhcpiaaDProg
import Derived.Test.YtcmibhechhcpiaaChecked
import Derived.Test.YtcmibhechhcpiaaRows
namespace Go.Proofs.Ytcmibhechhcpiaa
open Go.RowKit

set_option maxRecDepth 100000 in
set_option maxHeartbeats 4000000 in
theorem lawTrue (hp : PC) (xs : List Int) (A : Option Addr) (c : Nat) (cs : List Code4) (A2 : Option Addr) (c2 : Nat) (y : Code4) (w : World) (h8v : ∀ x ∈ xs, I8 x) (hlv : xs.length ≤ maxLen) (hV : Reads EI8 w w.heap.size A xs) (h8 : ∀ x ∈ cs, C8 x) (hl : cs.length ≤ maxLen) (hA : Codes w w.heap.size A2 cs) (hy : C8 y) :
    Calls Try.prog 11 #[.slice A xs.length c, .slice A2 cs.length c2, cval y.1 y.2.1 y.2.2.1 y.2.2.2] w fun e w' => e = .returned (.bool true) ∧ Below w.heap.size w w' := by
  have HA := Lib.hid hA
  have H8 := Lib.hid h8
  have HV := Lib.hid hV
  have H8V := Lib.hid h8v
  unfold maxLen at hl hlv
  obtain ⟨y0, y1, y2, y3⟩ := y
  obtain ⟨g0, g1, g2, g3⟩ := hy
  dsimp only at g0 g1 g2 g3
  clear hA h8 hV h8v
  by_cases h5 : 5 < xs.length
  · go_enter Try.func11, Try.ntmps11
    have HB0 := Lib.hid (fun (o : Obj) => (Below.refl w.heap.size w).alloc (Nat.le_refl _) o)
    go_wp2_with fail
    refine (awake_any hp _).mono ?_
    rintro e w1 ⟨rfl, hb1⟩
    have HB1 := Lib.hid ((HB0.out _).trans (hb1.mono (by simp)))
    clear hb1
    go_wp2_with fail
    refine (awake_any hp _).mono ?_
    rintro e w2 ⟨rfl, hb2⟩
    go_wp2_with fail
    go_ret
    exact ⟨rfl, HB1.out.trans (hb2.mono HB1.out.size)⟩
  by_cases h45 : 20 < cs.length
  · go_enter Try.func11, Try.ntmps11
    have HB0 := Lib.hid (fun (o : Obj) => (Below.refl w.heap.size w).alloc (Nat.le_refl _) o)
    go_wp2_with fail
    refine (awake_any hp _).mono ?_
    rintro e w1 ⟨rfl, hb1⟩
    have HB1 := Lib.hid ((HB0.out _).trans (hb1.mono (by simp)))
    clear hb1
    go_wp2_with fail
    refine (awake_any hp _).mono ?_
    rintro e w2 ⟨rfl, hb2⟩
    go_wp2_with fail
    go_ret
    exact ⟨rfl, HB1.out.trans (hb2.mono HB1.out.size)⟩
  have HBX : Hid (∀ u, Below (w.heap.size + 1) (w.alloc (.cells #[.int .i8 y0, .int .i8 y1, .int .i8 y2, .int .i8 y3] 61 (0, 0))) u → u.cell? ⟨w.heap.size, 0, none⟩ = some (.int .i8 y0) ∧ u.cell? ⟨w.heap.size, 1, none⟩ = some (.int .i8 y1) ∧ u.cell? ⟨w.heap.size, 2, none⟩ = some (.int .i8 y2) ∧ u.cell? ⟨w.heap.size, 3, none⟩ = some (.int .i8 y3)) := Lib.hid fun u hu =>
    ⟨(hu.cell (p := ⟨w.heap.size, 0, none⟩) (by simp)).trans (by simp), (hu.cell (p := ⟨w.heap.size, 1, none⟩) (by simp)).trans (by simp), (hu.cell (p := ⟨w.heap.size, 2, none⟩) (by simp)).trans (by simp), (hu.cell (p := ⟨w.heap.size, 3, none⟩) (by simp)).trans (by simp)⟩
  have HFW : Hid (∀ u, Below (w.heap.size + 1) (w.alloc (.cells #[.int .i8 y0, .int .i8 y1, .int .i8 y2, .int .i8 y3] 61 (0, 0))) u → Below w.heap.size w u) := Lib.hid fun u hu => ((Below.refl w.heap.size w).alloc (Nat.le_refl _) _).trans (hu.mono (by omega))
  have HFS : Hid (∀ u, Below (w.heap.size + 1) (w.alloc (.cells #[.int .i8 y0, .int .i8 y1, .int .i8 y2, .int .i8 y3] 61 (0, 0))) u → w.heap.size + 1 ≤ u.heap.size) := Lib.hid fun u hu => by have := hu.size; simpa using this
  go_enter Try.func11, Try.ntmps11
  have HB0 := Lib.hid (fun (o : Obj) => (Below.refl w.heap.size w).alloc (Nat.le_refl _) o)
  go_wp2_with fail
  refine (awake_any hp _).mono ?_
  rintro e w1 ⟨rfl, hb1⟩
  have HB1 := Lib.hid (below_one hb1)
  clear hb1 HB0
  obtain ⟨vs, hvs⟩ : ∃ vs, vs = tinyV xs := ⟨_, rfl⟩
  have hvl : vs.length = xs.length := by rw [hvs]; exact tinyV_len xs
  have HVF : Hid (∀ y ∈ vs, Fit y) := Lib.hid (by rw [hvs]; exact tinyV_fit xs)
  have HVK : Hid (∀ k (hk : k < xs.length), vs.take (k + 1) = vs.take k ++ [xs[k].tmod 21]) := Lib.hid fun k hk => by
    rw [List.take_succ_eq_append_getElem (by omega)]
    subst hvs
    simp [tinyV]
  have HVL := Lib.hid hvl
  clear hvs hvl
  go_wp2_with fail
  go_loopw [7, 34] (fun v ii wr => ∃ k : Nat, k ≤ xs.length ∧ ii = .int .i64 k ∧ OwnI wr (w.heap.size + 1) v (vs.take k) ∧ Below (w.heap.size + 1) (w.alloc (.cells #[.int .i8 y0, .int .i8 y1, .int .i8 y2, .int .i8 y3] 61 (0, 0))) wr) (fun _ ii _ => xs.length - (intOf ii).toNat)
  case atStart => exact ⟨0, Nat.zero_le _, rfl, OwnE.nil _ _ _, HB1.out⟩
  case round =>
    obtain ⟨k, hk, rfl, hown, hB⟩ := hrel
    by_cases hlt : k < xs.length
    · have hsz := HFS.out wr hB
      obtain ⟨b, off, rfl, hbb, hrd⟩ := Reads.at (Reads.below HV.out (HFW.out wr hB)) hlt
      have k0 : wr.cell? ⟨b, off + k, none⟩ = some (.int .i8 xs[k]) := by
        have := hrd k hlt 0 _ rfl
        rw [show EI8.size = 1 from rfl, Nat.mul_one, Nat.add_zero] at this
        exact this
      have hx8 := H8V.out _ (List.getElem_mem hlt)
      have HX := Lib.hid (HVK.out k hlt)
      have hlen : (vs.take k).length = k := by have := HVL.out; rw [List.length_take]; omega
      obtain ⟨A1, c1, rfl⟩ := OwnE.slice hown
      rw [hlen] at hown ⊢
      have HLEN := Lib.hid hlen
      have i0 : (0 : Int) ≤ (k : Int) := by omega
      have i1 : (k : Int) < (xs.length : Int) := by omega
      have i2 : ((k : Int)).toNat = k := by omega
      generalize xs[k] = x at k0 hx8 HX
      have hr := (rem_facts x 21 (by omega)).2
      have HO := Lib.hid hown
      have HB := Lib.hid hB
      clear hown hB hlen hrd
      go_wp2_with (at_builtin; refine wpList_append_int (w := World.alloc _ _) rfl _ _ rfl (w.heap.size + 1) _ (vs.take k) rfl ?y1 wr.heap.size 1 (x.tmod 21) rfl ?y2 ?y3 ?y4 ?_)
      case y1 => exact HO.out.alloc _
      case y2 => simp
      case y3 => rw [HLEN.out]; omega
      case y4 => simp; omega
      intro v1 w2 hown2 _ hb2
      have HO2 := Lib.hid hown2
      have HB2 := Lib.hid ((HB.out.alloc hsz _).trans hb2)
      clear hown2 hb2
      go_wp2_with fail
      go_roundw
      case rel => exact ⟨k + 1, by omega, by go_num, by rw [HX.out]; exact HO2.out, HB2.out⟩
      case measure => simp [intOf]; omega
    · have e : k = xs.length := by omega
      rw [e, List.take_of_length_le (by have := HVL.out; omega)] at hown
      obtain ⟨A1, c1, rfl⟩ := OwnE.slice hown
      have HO := Lib.hid hown
      have HB := Lib.hid hB
      have HL5 := Lib.hid (show vs.length ≤ 5 by have := HVL.out; omega)
      have hv5 : vs.length ≤ 5 := HL5.out
      clear hown hB e HVK HVL HV H8V HB1
      go_wp2_with fail
      obtain ⟨w0, hw0⟩ : ∃ w0, w0 = wr := ⟨_, rfl⟩
      subst hw0
      go_loopw [10, 47] (fun v ii wr => ∃ (k : Nat) (L : List Tst), k ≤ cs.length ∧ ii = .int .i64 k ∧ OwnT wr (w.heap.size + 1) v L ∧ L.length ≤ k ∧ (∀ y ∈ L, Good vs.length y ∧ holdsS y vs = true) ∧ OwnI wr (w.heap.size + 1) (.slice A1 vs.length c1) vs ∧ Below (w.heap.size + 1) (w.alloc (.cells #[.int .i8 y0, .int .i8 y1, .int .i8 y2, .int .i8 y3] 61 (0, 0))) wr) (fun _ ii _ => cs.length - (intOf ii).toNat)
      case atStart => exact ⟨0, [], Nat.zero_le _, rfl, OwnE.nil _ _ _, Nat.le_refl _, (fun y hy => by simp at hy), HO.out, HB.out⟩
      case round =>
        obtain ⟨k, L, hk, rfl, hown, hlen, hL, hvo, hB⟩ := hrel
        have hsz := HFS.out wr hB
        have HL := Lib.hid hL
        by_cases hlt : k < cs.length
        · obtain ⟨b, off, rfl, hbb, k0, k1, k2, k3⟩ := Codes.cells (Reads.below HA.out (HFW.out wr hB)) hlt
          obtain ⟨z0, z1, z2, z3⟩ := H8.out _ (List.getElem_mem hlt)
          have HM := Lib.hid (fun u => made_any (vs.length : Int) cs[k].1 cs[k].2.1 cs[k].2.2.1 cs[k].2.2.2 u (by omega) (by omega) z0 z1 z2 z3)
          have HG := Lib.hid (made_good (show (0 : Int) ≤ (vs.length : Int) by omega) cs[k].1 cs[k].2.1 cs[k].2.2.1 cs[k].2.2.2)
          have i0 : (0 : Int) ≤ (k : Int) := by omega
          have i1 : (k : Int) < (cs.length : Int) := by omega
          have i2 : ((k : Int)).toNat = k := by omega
          generalize cs[k] = x at k0 k1 k2 k3 HM HG
          obtain ⟨x0, x1, x2, x3⟩ := x
          dsimp only at k0 k1 k2 k3 HM HG
          generalize madeS vs.length x0 x1 x2 x3 = M at HM HG
          obtain ⟨mk, mlv, mla, mrv, mra⟩ := M
          have HH := Lib.hid (fun A' c' u hT => hp.hol ⟨mk, mlv, mla, mrv, mra⟩ vs A' c' u (good_64 (by omega) HG.out) (good_fit HG.out).1 (good_fit HG.out).2 HVF.out (by omega) hT)
          have HT := Lib.hid hown
          have HI := Lib.hid hvo
          have HF := Lib.hid hB
          obtain ⟨A3, c3, rfl⟩ := OwnE.slice hown
          clear hown hvo hB z0 z1 z2 z3 hL
          go_wp2_with fail
          refine (HM.out _).mono ?_
          rintro e w2 ⟨rfl, hb2⟩
          have HF2 := Lib.hid ((HF.out.alloc hsz _).trans (hb2.mono (by simp; omega)))
          have HT2 := Lib.hid ((HT.out.alloc _).below hb2 (Nat.le_refl _))
          have HI2 := Lib.hid ((HI.out.alloc _).below hb2 (Nat.le_refl _))
          have hsz2 := HFS.out w2 HF2.out
          clear hb2 HF HT HI k0 k1 k2 k3 HM
          go_wp2_with fail
          have HI3 := Lib.hid (HI2.out.alloc (.cells #[.int .i64 mk, .int .i64 mlv, .int .i64 mla, .int .i64 mrv, .int .i64 mra] 32 (0, 0)))
          refine (HH.out _ _ _ HI3.out.read).mono ?_
          rintro e w3 ⟨rfl, hb3⟩
          have HF3 := Lib.hid ((HF2.out.alloc hsz2 _).trans (hb3.mono (by simp; omega)))
          have HT3 := Lib.hid ((HT2.out.alloc _).below hb3 (Nat.le_refl _))
          have HI4 := Lib.hid (HI3.out.below hb3 (Nat.le_refl _))
          have q0 := (hb3.cell (p := ⟨w2.heap.size, 0, none⟩) (by simp)).trans (show _ = some (Value.int .i64 mk) from by simp)
          have q1 := (hb3.cell (p := ⟨w2.heap.size, 1, none⟩) (by simp)).trans (show _ = some (Value.int .i64 mlv) from by simp)
          have q2 := (hb3.cell (p := ⟨w2.heap.size, 2, none⟩) (by simp)).trans (show _ = some (Value.int .i64 mla) from by simp)
          have q3 := (hb3.cell (p := ⟨w2.heap.size, 3, none⟩) (by simp)).trans (show _ = some (Value.int .i64 mrv) from by simp)
          have q4 := (hb3.cell (p := ⟨w2.heap.size, 4, none⟩) (by simp)).trans (show _ = some (Value.int .i64 mra) from by simp)
          have hsz3 := HFS.out w3 HF3.out
          clear hb3 HF2 HT2 HI2 HI3 HH
          cases hz : holdsS ⟨mk, mlv, mla, mrv, mra⟩ vs with
          | false =>
            go_wp2_with fail
            go_roundw
            case rel => exact ⟨k + 1, L, by omega, by go_num, HT3.out, by omega, HL.out, HI4.out, HF3.out⟩
            case measure => simp [intOf]; omega
          | true =>
            have HZ := Lib.hid hz
            clear hz
            go_wp2_with (at_builtin; refine wpList_append_tst (w := World.alloc _ _) rfl _ _ rfl (w.heap.size + 1) _ L rfl ?y1 w3.heap.size 1 ⟨mk, mlv, mla, mrv, mra⟩ rfl ?y2 ?y3 ?y4 ?_)
            case y1 => exact HT3.out.alloc _
            case y2 => simp [World.alloc, -World.alloc_eq]
            case y3 => omega
            case y4 => simp; omega
            intro v4 w4 hown4 hg4 hb4
            have HI5 := Lib.hid ((HI4.out.alloc _).kept hg4 (own_apart (by decide) HI4.out HT3.out))
            have HT4 := Lib.hid hown4
            have HF4 := Lib.hid ((HF3.out.alloc hsz3 _).trans hb4)
            have HL4 : Hid (∀ y ∈ L ++ [(⟨mk, mlv, mla, mrv, mra⟩ : Tst)], Good vs.length y ∧ holdsS y vs = true) := Lib.hid fun y hy => by
              rw [List.mem_append] at hy
              rcases hy with hy | hy
              · exact HL.out y hy
              · simp only [List.mem_singleton] at hy
                rw [hy]
                exact ⟨HG.out, HZ.out⟩
            clear hown4 hg4 hb4 q0 q1 q2 q3 q4
            go_wp2_with fail
            go_roundw
            case rel => exact ⟨k + 1, _, by omega, by go_num, HT4.out, by simp; omega, HL4.out, HI5.out, HF4.out⟩
            case measure => simp [intOf]; omega
        · have hM := fun u => made_any (vs.length : Int) y0 y1 y2 y3 u (by omega) (by omega) g0 g1 g2 g3
          have hG := made_good (show (0 : Int) ≤ (vs.length : Int) by omega) y0 y1 y2 y3
          have HM := Lib.hid hM
          have HG := Lib.hid hG
          clear hM hG
          generalize madeS vs.length y0 y1 y2 y3 = M at HM HG
          obtain ⟨mk, mlv, mla, mrv, mra⟩ := M
          have hL20 : L.length ≤ 20 := by omega
          have HS := Lib.hid (true_sol HL5.out hL20 hL)
          have HSE := Lib.hid HS.out.2.1
          have HIM := Lib.hid (fun b hb => true_imp (b := b) HL5.out hL20 hL HG.out hb)
          have HM64 := Lib.hid (good_64 (show (vs.length : Int) ≤ 12 by omega) HG.out)
          have HL64 : Hid (∀ x ∈ L, T64 x) := Lib.hid fun x hx => good_64 (show (vs.length : Int) ≤ 12 by omega) (hL x hx).1
          have HH := Lib.hid (fun A' c' u hT => hp.hol ⟨mk, mlv, mla, mrv, mra⟩ vs A' c' u HM64.out (good_fit HG.out).1 (good_fit HG.out).2 HVF.out (by omega) hT)
          obtain ⟨p0, p1, p2, p3⟩ := HBX.out wr hB
          obtain ⟨A3, c3, rfl⟩ := OwnE.slice hown
          have HT := Lib.hid hown
          have HI := Lib.hid hvo
          have HF := Lib.hid hB
          clear hown hvo hB hL HL HBX HO HB HS HA
          go_wp2_with fail
          refine (HM.out _).mono ?_
          rintro e w2 ⟨rfl, hb2⟩
          have HF2 := Lib.hid (HF.out.trans (hb2.mono hsz))
          have HT2 := Lib.hid (HT.out.below hb2 (Nat.le_refl _))
          have HI2 := Lib.hid (HI.out.below hb2 (Nat.le_refl _))
          have hsz2 := HFS.out w2 HF2.out
          clear hb2 HF HT HI HM p0 p1 p2 p3
          go_wp2_with fail
          have HT3 := Lib.hid (HT2.out.alloc (.cells #[.int .i64 mk, .int .i64 mlv, .int .i64 mla, .int .i64 mrv, .int .i64 mra] 32 (0, 0)))
          have HI3 := Lib.hid (HI2.out.alloc (.cells #[.int .i64 mk, .int .i64 mlv, .int .i64 mla, .int .i64 mrv, .int .i64 mra] 32 (0, 0)))
          have HX3 : Hid (∀ u, Below (w2.heap.size + 1) (w2.alloc (.cells #[.int .i64 mk, .int .i64 mlv, .int .i64 mla, .int .i64 mrv, .int .i64 mra] 32 (0, 0))) u → u.cell? ⟨w2.heap.size, 0, none⟩ = some (.int .i64 mk) ∧ u.cell? ⟨w2.heap.size, 1, none⟩ = some (.int .i64 mlv) ∧ u.cell? ⟨w2.heap.size, 2, none⟩ = some (.int .i64 mla) ∧ u.cell? ⟨w2.heap.size, 3, none⟩ = some (.int .i64 mrv) ∧ u.cell? ⟨w2.heap.size, 4, none⟩ = some (.int .i64 mra)) := Lib.hid fun u hu =>
            ⟨(hu.cell (p := ⟨w2.heap.size, 0, none⟩) (by simp)).trans (by simp), (hu.cell (p := ⟨w2.heap.size, 1, none⟩) (by simp)).trans (by simp), (hu.cell (p := ⟨w2.heap.size, 2, none⟩) (by simp)).trans (by simp), (hu.cell (p := ⟨w2.heap.size, 3, none⟩) (by simp)).trans (by simp), (hu.cell (p := ⟨w2.heap.size, 4, none⟩) (by simp)).trans (by simp)⟩
          refine (hp.sol (vs.length : Int) L A3 c3 _ (by omega) HL64.out (by omega) HT3.out.read).mono ?_
          rintro e w3 ⟨A4, c4, rfl, _, hb3⟩
          have HF3 := Lib.hid ((HF2.out.alloc hsz2 _).trans (hb3.mono (by simp; omega)))
          have HT4 := Lib.hid (HT3.out.below hb3 (Nat.le_refl _))
          have HI4 := Lib.hid (HI3.out.below hb3 (Nat.le_refl _))
          have HB3 := Lib.hid (below_one hb3)
          have hsz3 : w2.heap.size + 1 ≤ w3.heap.size := by have := HB3.out.size; simpa using this
          obtain ⟨q0, q1, q2, q3, q4⟩ := HX3.out w3 HB3.out
          rw [HSE.out]
          clear hb3 HT3 HI3 HF2 HT2 HI2 HSE
          go_wp2_with fail
          refine (hp.imp (vs.length : Int) L A3 c3 ⟨mk, mlv, mla, mrv, mra⟩ _ (by omega) HL64.out HM64.out (by omega) HT4.out.read).mono ?_
          rintro e w4 ⟨b, hb, rfl, hb4⟩
          obtain ⟨e1, e2⟩ := HIM.out b hb
          have HE2 := Lib.hid e2
          rw [e1]
          have HF4 := Lib.hid (HF3.out.trans (hb4.mono (by omega)))
          have HI5 := Lib.hid (HI4.out.below hb4 (Nat.le_refl _))
          have HB4 := Lib.hid (HB3.out.trans (hb4.mono hsz3))
          clear q0 q1 q2 q3 q4
          obtain ⟨q0, q1, q2, q3, q4⟩ := HX3.out w4 HB4.out
          clear hb hb4 e1 e2 HIM HX3 HF3 HT4 HI4 HB3
          cases b with
          | false =>
            have HR := Lib.hid (HFW.out w4 HF4.out)
            go_wp2_with fail
            go_ret
            exact ⟨rfl, HR.out⟩
          | true =>
            have HZ := Lib.hid (HE2.out rfl)
            have hsz4 := HFS.out w4 HF4.out
            rw [HZ.out] at HH
            go_wp2_with fail
            refine (HH.out _ _ _ HI5.out.read).mono ?_
            rintro e w5 ⟨rfl, hb5⟩
            have HR := Lib.hid (HFW.out w5 (HF4.out.trans (hb5.mono (by omega))))
            go_wp2_with fail
            go_ret
            exact ⟨rfl, HR.out⟩

end Go.Proofs.Ytcmibhechhcpiaa
namespace Go.Proofs.Ytcmibhechhcpiaa.differenceTrue
open Go.ChangeShapes Go.WideShapes Go.ChangeAt Go.RowKit Go.Deep

set_option maxRecDepth 100000 in
theorem lifted (os : Os) (started : os.Started) (H : Type) (enc : TypeId × Value → H) :
    ReturnsInHanded {} Try.checked os 11 .any (Rows.differenceTrueSpec.pre6 enc Try.prog Try.f11 Rows.differenceTrueRow.domain false) (Rows.differenceTrueSpec.post enc Try.prog Try.f11 false true false false) := by
  refine returnsInHanded_of_change (C := Try.checked) ownNone started (by kernel_rfl) Try.func11
    (ChangeSpec.witness6 (enc := enc) (C := Try.checked) false ⟨#[], #[.slice none 0 0, .slice none 0 0, .agg #[.int .i8 0, .int .i8 0, .int .i8 0, .int .i8 0]], []⟩ 8 (by kernel_rfl) (by kernel_rfl) (by kernel_rfl) (by kernel_rfl)) ?_
  intro W base args ds gs before hval0 hW hcnd _
  have hval : ∀ (j : Nat) t v, Try.f11.params[j]? = some t → args[j]? = some v → Value.okWide Try.prog W .any base t v := hval0
  have hW' := hW
  obtain ⟨p, q, hA0, hV, rfl, hfz, hnd⟩ := hW
  have hA : DataW.TrodAll enc Try.prog W 0 (fun _ => true) true Try.f11.params.toList args.toList ds p := hA0
  rw [Try.params11] at hA hval
  obtain ⟨v0, v1, v2, d0, d1, d2, p0, p1, p2, rfl, rfl, rfl, h0, h1, h2⟩ := trodAll_three hA
  obtain ⟨rfl, rfl⟩ := trodVars_none hV
  clear hA0 hval0
  simp only [List.append_nil] at hW'
  have hlt : ∀ x ∈ p0 ++ p1 ++ p2, x.block < W.heap.size := fun x hx => by simpa using hW'.lt x (by simpa using hx)
  have k0 := h0
  obtain ⟨a0, len0, cap0, rfl⟩ := okWide_slice Try.underlying64 (hval 0 64 v0 rfl rfl)
  obtain ⟨f0, g0⟩ := h0
  obtain ⟨A0, xs0, c0, e0, hT0, hG0, hl0, hm0⟩ := open_s g0
  simp [Value.cells] at e0
  obtain ⟨rfl, rfl, rfl⟩ := e0
  have k1 := h1
  obtain ⟨a1, len1, cap1, rfl⟩ := okWide_slice Try.underlying56 (hval 1 56 v1 rfl rfl)
  obtain ⟨f1, g1⟩ := h1
  obtain ⟨A1, xs1, c1, e1, hT1, hG1, hl1, hm1⟩ := open_c g1
  simp [Value.cells] at e1
  obtain ⟨rfl, rfl, rfl⟩ := e1
  have k2 := h2
  obtain ⟨cs2, rfl, _⟩ := okWide_array Try.underlying61 (hval 2 61 v2 rfl rfl)
  obtain ⟨f2, g2⟩ := h2
  obtain ⟨y2, e2, hG2⟩ := code_of g2
  obtain rfl := agg_of (e2)
  refine (lawTrue pc xs0 a0 cap0 xs1 a1 cap1 y2 W hG0 (Nat.le_trans hl0 hm0) hT0 hG1 (Nat.le_trans hl1 hm1) hT1 hG2).mono fun e W' ⟨he, hg⟩ => ?_
  subst he
  exact ⟨_, rfl, _, _, _, [], p0 ++ p1 ++ p2, [], hW', trodAll_cons_mk (shut_bool Try.underlying4 _) trodAll_mk0, (by rw [List.append_assoc p0 p1 p2]; exact trodAll_mk3 (Below.trod laidOut (by kernel_rfl) (of_decide_eq_true (by kernel_rfl)) k0 hg (fun x hx => hlt x (List.mem_append_left _ (List.mem_append_left _ hx)))) (Below.trod laidOut (by kernel_rfl) (of_decide_eq_true (by kernel_rfl)) k1 hg (fun x hx => hlt x (List.mem_append_left _ (List.mem_append_right _ hx)))) (Below.trod laidOut (by kernel_rfl) (of_decide_eq_true (by kernel_rfl)) k2 hg (fun x hx => hlt x (List.mem_append_right _ hx)))), rfl, hg.frame _, fun h => by cases h⟩

theorem over : Rows.differenceTrueRow.holds Try.pinned (OpenSpec.ofChange Rows.differenceTrueSpec) :=
  OpenClaim.holds_of_wide 11 Try.f11 rfl rfl rfl rfl rfl rfl rfl ⟨rfl, rfl, rfl, rfl, rfl⟩ rfl rfl rfl rfl rfl (by kernel_rfl) Try.func11 (by kernel_rfl)
    (of_decide_eq_true (by kernel_rfl)) (by unfold Func.isWrapper; first | (rw [if_pos (by decide +kernel)]; kernel_rfl) | (rw [if_neg (by decide +kernel)]; exact ⟨rfl, rfl⟩))
    (fun os started H enc _ => lifted os started H enc)

theorem proved : Rows.DifferenceTrueSaid := over

end Go.Proofs.Ytcmibhechhcpiaa.differenceTrue
