/-
  Difference, the program: Solve.
-/
import Derived.Test.YtcmibhechhcpiaaPValid
import Derived.Test.YtcmibhechhcpiaaPGreat
import Derived.Test.YtcmibhechhcpiaaDUni
import Derived.Deep.RegionHeld3
namespace Go.Proofs.Ytcmibhechhcpiaa
open Go.RowKit

/-- of n values, the first k are given, the others 0 -/
def upS (f : Nat → Int) (k : Nat) : Nat → Int := fun i => if i < k then f i else 0
theorem upS_zero (n : Nat) (f : Nat → Int) : rowI n (fun _ => 0) = rowI n (upS f 0) := rowI_ext fun j _ => by simp [upS]
theorem upS_set {n k : Nat} (f : Nat → Int) : (rowI n (upS f k)).set k (f k) = rowI n (upS f (k + 1)) := by
  rw [rowI_set]
  refine rowI_ext fun j _ => ?_
  unfold upS
  by_cases h : j = k
  · subst h; rw [if_pos rfl, if_pos (by omega)]
  · rw [if_neg h]
    by_cases h2 : j < k
    · rw [if_pos h2, if_pos (by omega)]
    · rw [if_neg h2, if_neg (by omega)]
theorem upS_all (n : Nat) (f : Nat → Int) : rowI n (upS f n) = rowI n f := rowI_ext fun j hj => by unfold upS; rw [if_pos hj]

set_option maxRecDepth 100000 in
set_option maxHeartbeats 4000000 in
theorem psolve_any (n : Int) (xs : List Tst) (A : Option Addr) (c : Nat) (w : World) (hl : xs.length ≤ maxLen) (hT : Tsts w w.heap.size A xs) :
    Calls Try.prog 13 #[.int .i64 n, .slice A xs.length c] w fun e w' => Below w.heap.size w w' ∧
      ((validS n xs ≠ 0 ∧ e = .returned (.tuple #[.slice none 0 0, .int .i64 (validS n xs)])) ∨
       (validS n xs = 0 ∧ ¬ OkB n.toNat (arcsL xs) ∧ e = .returned (.tuple #[.slice none 0 0, .int .i64 10])) ∨
       (validS n xs = 0 ∧ OkB n.toNat (arcsL xs) ∧ ∃ v, e = .returned (.tuple #[v, .int .i64 0]) ∧ OwnI w' w.heap.size v (solS n.toNat (arcsL xs)))) := by
  have HV := Lib.hid (pvalid_any n xs A c w hl hT)
  have HT := Lib.hid hT
  by_cases hv : validS n xs = 0
  · obtain ⟨⟨hn0, hn12⟩, hl40, hg⟩ := validS_zero.1 hv
    obtain ⟨m, rfl⟩ : ∃ m : Nat, n = m := ⟨n.toNat, by omega⟩
    rw [hv] at HV
    have hin := arcs_in hg
    have hsm := arcs_small hg
    have hal : (arcsL xs).length ≤ 2 * xs.length := arcsF_len xs xs.length
    rw [show ((m : Int)).toNat = m by omega] at hin ⊢
    have hm : m ≤ 12 := by omega
    have HL := Lib.hid (fun u hu => links_any (m : Int) xs A c u (by omega) hg (by omega) hu)
    have HGR := Lib.hid (fun A1 c1 u hu => greatest_any m (arcsL xs) A1 c1 u hm (by omega) hin hsm hu)
    have HLOW : Hid (∀ i, -30000000 ≤ std m (arcsL xs) i) := Lib.hid fun i => std_low hm hsm i
    have HHI : Hid (∀ i, std m (arcsL xs) i ≤ 0) := Lib.hid fun i => std_le i
    have HSOL := Lib.hid (show solS m (arcsL xs) = rowI m (fun i => std m (arcsL xs) (i + 1) - std m (arcsL xs) 0) from rfl)
    have hv0 := hv
    clear hT hg hin hsm hv hn0 hn12 hal
    generalize arcsL xs = l at HL HGR HLOW HHI HSOL ⊢
    go_enter Try.func13, Try.ntmps13
    go_wp2_with fail
    refine HV.out.mono ?_
    rintro e w1 ⟨rfl, hb1⟩
    have HT1 := Lib.hid (Reads.up HT.out hb1)
    have HB1 := Lib.hid hb1
    have hle1 := hb1.size
    clear hb1
    go_wp2_with fail
    refine (HL.out _ HT1.out).mono ?_
    rintro e w2 ⟨vl, rfl, hlk, hb2⟩
    obtain ⟨A2, c2, rfl⟩ := OwnE.slice hlk
    have HLK := Lib.hid hlk
    have HB2 := Lib.hid (HB1.out.trans (hb2.mono hle1))
    have hle2 := HB2.out.size
    clear hlk hb2
    go_wp2_with fail
    refine (HGR.out _ _ _ HLK.out.read).mono ?_
    rintro e w3 ⟨h3, hb3⟩
    have HB3 := Lib.hid (HB2.out.trans (hb3.mono hle2))
    have hle3 := HB3.out.size
    clear hb3
    rcases h3 with ⟨hok, g, cc, rfl, hval⟩ | ⟨hok, rfl⟩
    case inr =>
      have HOK := Lib.hid hok
      clear hok
      go_wp2_with fail
      go_ret2
      exact ⟨HB3.out, .inr (.inl ⟨hv0, HOK.out, rfl⟩)⟩
    have HOK := Lib.hid hok
    have HVAL := Lib.hid hval
    have hgl := (OwnE.lt hval g rfl).2
    clear hok hval
    obtain ⟨fr, hfr, hfa⟩ : ∃ fr : Nat → Int, (∀ j, fr j = std m l (j + 1) - std m l 0) ∧ solS m l = rowI m fr := ⟨_, fun _ => rfl, rfl⟩
    have HFR := Lib.hid hfr
    have HFA := Lib.hid hfa
    clear hfr hfa HSOL
    go_wp2_with (at_make; refine wpList_make_I rfl _ _ rfl w3.heap.size m (m : Int) (by omega) rfl rfl (by omega) (Nat.le_refl _) ?_; intro w4 hown hb hsz)
    have HO := Lib.hid hown
    have HB4 := Lib.hid hb
    clear hown hb hsz
    go_wp2_with fail
    go_loopw [30] (fun ii wr => ∃ k : Nat, k ≤ m ∧ ii = .int .i64 k ∧ OwnI wr w3.heap.size (.slice (some ⟨w3.heap.size, 0, none⟩) m m) (rowI m (upS fr k)) ∧ Below w3.heap.size w3 wr) (fun ii _ => m - (intOf ii).toNat)
    case atStart => exact ⟨0, Nat.zero_le _, rfl, by rw [← upS_zero]; exact HO.out, HB4.out⟩
    case round =>
      obtain ⟨k, hk, rfl, hown, hb⟩ := hrel
      by_cases hlt : k < m
      · have hV' := HVAL.out.below hb (Nat.le_refl _)
        have r1 := OwnI.cell (rowI_length _ _).symm hV' (j := k + 1) (by omega)
        have r2 := OwnI.cell (rowI_length _ _).symm hV' (j := 0) (by omega)
        have r3 := OwnI.cell (rowI_length _ _).symm hown (j := k) hlt
        have r4 := OwnI.free (rowI_length _ _).symm hown k
        rw [rowI_getD _ (by omega)] at r1 r2
        have l1 := HLOW.out (k + 1)
        have l2 := HLOW.out 0
        have u1 := HHI.out (k + 1)
        have u2 := HHI.out 0
        have HE : Hid ((rowI m (upS fr k)).set k (std m l (k + 1) - std m l 0) = rowI m (upS fr (k + 1))) := Lib.hid (by rw [← HFR.out, upS_set])
        have HO1 := Lib.hid hown
        have HB5 := Lib.hid hb
        have hsz5 := hb.size
        clear hV' hown hb
        have f0 : (0 : Int) ≤ (k : Int) + 1 := by omega
        have f1 : (k : Int) + 1 < (m : Int) + 1 := by omega
        have f2 : ((k : Int) + 1).toNat = k + 1 := by omega
        have e0 : (0 : Int) ≤ (k : Int) := by omega
        have e1 : (k : Int) < (m : Int) := by omega
        have e2 : ((k : Int)).toNat = k := by omega
        have HP1 : Hid (∀ u, Calls Try.prog 42 #[.int .i64 k] u fun e w' => e = .returned (.int .i64 ((k : Int) + 1)) ∧ w' = u) := Lib.hid fun u => by
          have := place_any (k : Int) (k + 1) u (by omega) (by omega)
          rw [show (((k + 1 : Nat)) : Int) = (k : Int) + 1 by omega] at this
          exact this
        have HP2 : Hid (∀ u, Calls Try.prog 42 #[.int .i64 (-1)] u fun e w' => e = .returned (.int .i64 0) ∧ w' = u) := Lib.hid fun u => place_any (-1) 0 u (by omega) (by omega)
        have hn1 : (⟨w3.heap.size, k, none⟩ : Addr) ≠ ⟨g, k + 1, none⟩ := fun h => absurd (congrArg Addr.block h) (show ¬ w3.heap.size = g by omega)
        have hn2 : (⟨w3.heap.size, k, none⟩ : Addr) ≠ ⟨g, 0, none⟩ := fun h => absurd (congrArg Addr.block h) (show ¬ w3.heap.size = g by omega)
        generalize std m l (k + 1) = z1 at r1 l1 u1 HE
        generalize std m l 0 = z2 at r2 l2 u2 HE
        generalize (rowI m (upS fr k)).getD k 0 = z3 at r3
        have HQ1 : Hid (∀ v, (wr.setCell ⟨w3.heap.size, k, none⟩ v).drew.cell? ⟨g, k + 1, none⟩ = some (.int .i64 z1)) := Lib.hid fun v => by
          show (wr.setCell ⟨w3.heap.size, k, none⟩ v).cell? ⟨g, k + 1, none⟩ = _
          exact (World.cell?_setCell_other _ _ _ _ hn1).trans r1
        have HQ2 : Hid (∀ v, (wr.setCell ⟨w3.heap.size, k, none⟩ v).drew.cell? ⟨g, 0, none⟩ = some (.int .i64 z2)) := Lib.hid fun v => by
          show (wr.setCell ⟨w3.heap.size, k, none⟩ v).cell? ⟨g, 0, none⟩ = _
          exact (World.cell?_setCell_other _ _ _ _ hn2).trans r2
        have hq1 := (World.cell?_setCell_other wr ⟨w3.heap.size, k, none⟩ _ (.int .i64 (IntKind.i64.wrap (z1 - z2))) hn1).trans r1
        have hq2 := (World.cell?_setCell_other wr ⟨w3.heap.size, k, none⟩ _ (.int .i64 (IntKind.i64.wrap (z1 - z2))) hn2).trans r2
        clear hn1 hn2
        have HWR : Hid (IntKind.i64.wrap (z1 - z2) = z1 - z2) := Lib.hid (by rw [IntKind.wrap_i64]; omega)
        go_wp2_with fail
        go_region_held3 (fun w' => w'.cell? ⟨g, k + 1, none⟩ = some (.int .i64 z1) ∧ w'.cell? ⟨g, 0, none⟩ = some (.int .i64 z2)) (first | go_keep | (go_split_ands; exact ⟨HQ1.out _, HQ2.out _⟩))
          (first | (go_at_call 42; with_reducible refine (HP1.out _).mono ?_; rintro e w' ⟨rfl, rfl⟩) | (go_at_call 42; with_reducible refine (HP2.out _).mono ?_; rintro e w' ⟨rfl, rfl⟩))
        rw [HWR.out]
        go_wp2_with fail
        go_roundw
        case rel => exact ⟨k + 1, by omega, by go_num, by rw [← HE.out]; exact ((OwnI.set (rowI_length _ _).symm HO1.out k _).1).below (Below.drew (Below.refl _ _)) (Nat.le_refl _), Below.drew (HB5.out.setCell (p := ⟨w3.heap.size, k, none⟩) (Nat.le_refl _) _)⟩
        case measure => simp [intOf]; omega
      · have e : k = m := by omega
        subst e
        have HR := Lib.hid hown
        have HBS := Lib.hid (HB3.out.trans (hb.mono hle3))
        clear hown hb
        go_wp2_with fail
        go_ret2
        exact ⟨HBS.out, .inr (.inr ⟨hv0, HOK.out, _, rfl, by rw [HFA.out, ← upS_all]; exact HR.out.mono hle3⟩)⟩
  · generalize validS n xs = e1 at HV hv ⊢
    have t1 : ((e1 : Int) != 0) = true := by simp; omega
    clear hT
    go_enter Try.func13, Try.ntmps13
    go_wp2_with fail
    refine HV.out.mono ?_
    rintro e w1 ⟨rfl, hb1⟩
    have HB1 := Lib.hid hb1
    clear hb1
    go_wp2_with fail
    go_ret2
    exact ⟨HB1.out, .inl ⟨hv, rfl⟩⟩

end Go.Proofs.Ytcmibhechhcpiaa
