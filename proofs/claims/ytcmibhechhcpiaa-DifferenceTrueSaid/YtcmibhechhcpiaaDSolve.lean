/-
  Difference: Solve of the reference.
-/
import Derived.Test.YtcmibhechhcpiaaDDist
import Derived.Test.YtcmibhechhcpiaaStep
namespace Go.Proofs.Ytcmibhechhcpiaa
open Go.RowKit

def minB (f : Nat → Int) : Nat → Int
  | 0 => 0
  | k + 1 => min (minB f k) (f k)
theorem minB_up (f : Nat → Int) (n : Nat) : minB f (n + 1) = minUp f n := by
  induction n with
  | zero => rfl
  | succ n ih =>
    show min (minB f (n + 1)) (f (n + 1)) = min (minUp f n) (f (n + 1))
    rw [ih]
/-- the standard solution -/
def solS (n : Nat) (l : List Arc) : List Int := rowI n (fun i => std n l (i + 1) - std n l 0)

set_option maxHeartbeats 2000000 in
theorem solve_any (n : Int) (xs : List Tst) (A : Option Addr) (c : Nat) (w : World) (hl : xs.length ≤ maxLen) (hT : Tsts w w.heap.size A xs) :
    Calls Try.prog 15 #[.int .i64 n, .slice A xs.length c] w fun e w' => Below w.heap.size w w' ∧
      ((validS n xs ≠ 0 ∧ e = .returned (.tuple #[.slice none 0 0, .int .i64 (validS n xs)])) ∨
       (validS n xs = 0 ∧ ¬ OkB n.toNat (arcsL xs) ∧ e = .returned (.tuple #[.slice none 0 0, .int .i64 10])) ∨
       (validS n xs = 0 ∧ OkB n.toNat (arcsL xs) ∧ ∃ v, e = .returned (.tuple #[v, .int .i64 0]) ∧ OwnI w' w.heap.size v (solS n.toNat (arcsL xs)))) := by
  have HV := Lib.hid (valid_any n xs A c w hl hT)
  have HT := Lib.hid hT
  by_cases hv : validS n xs = 0
  · obtain ⟨⟨hn0, hn12⟩, hl40, hg⟩ := validS_zero.1 hv
    obtain ⟨m, rfl⟩ : ∃ m : Nat, n = m := ⟨n.toNat, by omega⟩
    rw [hv] at HV
    have hin := arcs_in hg
    have hsm := arcs_small hg
    rw [show ((m : Int)).toNat = m by omega] at hin ⊢
    have hm : m ≤ 12 := by omega
    have HD := Lib.hid (fun u hu => distances_any m xs A c u hm (by omega) hg hu)
    have hlow : ∀ i, -30000000 ≤ std m (arcsL xs) i := fun i => std_low hm hsm i
    have hhi : ∀ i, std m (arcsL xs) i ≤ 0 := fun i => std_le i
    have HLOW := Lib.hid hlow
    have HHI := Lib.hid hhi
    have HSOL := Lib.hid (show solS m (arcsL xs) = rowI m (fun i => std m (arcsL xs) (i + 1) - std m (arcsL xs) 0) from rfl)
    have HSTD : Hid (∀ i, minB (dst m (arcsL xs) i) (m + 1) = std m (arcsL xs) i) := Lib.hid fun i => minB_up _ _
    have hv0 := hv
    clear hT hg hin hsm hlow hhi hv hn0 hn12
    generalize arcsL xs = l at HD HLOW HHI HSOL HSTD ⊢
    go_enter Try.func15, Try.ntmps15
    go_wp2_with fail
    refine HV.out.mono ?_
    rintro e w1 ⟨rfl, hb1⟩
    have HT1 := Lib.hid (Reads.up HT.out hb1)
    have HB1 := Lib.hid hb1
    clear hb1
    go_wp2_with fail
    refine (HD.out _ HT1.out).mono ?_
    rintro e w2 ⟨hb2, h2⟩
    have HB2 := Lib.hid (HB1.out.trans (hb2.mono HB1.out.size))
    have hle1 := HB1.out.size
    clear hb2
    rcases h2 with ⟨hok, vd, rfl, hd⟩ | ⟨hok, rfl⟩
    case inr =>
      have HOK := Lib.hid hok
      clear hok
      go_wp2_with fail
      go_ret2
      exact ⟨HB2.out, .inr (.inl ⟨hv0, HOK.out, rfl⟩)⟩
    have HOK := Lib.hid hok
    have HM := Lib.hid (hd.mono hle1)
    clear hok hd
    go_wp2_with fail
    go_loopw [9, 10] (fun v ii wr => ∃ i : Nat, i ≤ m + 1 ∧ ii = .int .i64 i ∧ OwnI wr w2.heap.size v (rowI i (std m l)) ∧ Below w2.heap.size w2 wr) (fun _ ii _ => m + 1 - (intOf ii).toNat)
    case atStart => exact ⟨0, Nat.zero_le _, rfl, OwnE.nil _ _ _, Below.refl _ _⟩
    case round =>
      obtain ⟨wo, hwo⟩ : ∃ wo, wo = wr := ⟨_, rfl⟩
      subst hwo
      obtain ⟨i, hi, rfl, hown, hb⟩ := hrel
      by_cases hlt : i ≤ m
      · have t1 : decide ((i : Int) ≤ (m : Int)) = true := decide_eq_true (by omega)
        obtain ⟨A1, c1, rfl⟩ := OwnE.slice hown
        have hlen := rowI_length i (std m l)
        have HO := Lib.hid hown
        have HB := Lib.hid hb
        have hsz := hb.size
        have HM1 := Lib.hid (HM.out.below hb (Nat.le_refl _))
        have HE := Lib.hid (rowI_succ i (std m l))
        have HX := Lib.hid (HSTD.out i)
        clear hown hb
        go_wp2_with fail
        go_loopw [11, 12] (fun vv kk ws => ∃ k : Nat, k ≤ m + 1 ∧ kk = .int .i64 k ∧ vv = .int .i64 (minB (dst m l i) k) ∧ ws = wo) (fun _ kk _ => m + 1 - (intOf kk).toNat)
        case atStart => exact ⟨0, Nat.zero_le _, rfl, rfl, rfl⟩
        case round =>
          obtain ⟨k, hk, rfl, rfl, rfl⟩ := hrel
          by_cases hlk : k ≤ m
          · have t2 : decide ((k : Int) ≤ (m : Int)) = true := decide_eq_true (by omega)
            obtain ⟨b1, c1, g1, e1, hv, _, _, m1, _, _, m4, _⟩ := HM1.out.at (k := i) (by omega)
            have m4 := m4 k (by omega)
            have HK := Lib.hid (show minB (dst m l i) (k + 1) = min (minB (dst m l i) k) (dst m l i k) from rfl)
            subst hv
            have f0 : (0 : Int) ≤ (i : Int) := by omega
            have f1 : (i : Int) < (m : Int) + 1 := by omega
            have f2 : ((i : Int)).toNat = i := by omega
            have q0 : (0 : Int) ≤ (k : Int) := by omega
            have q1 : (k : Int) < (m : Int) + 1 := by omega
            have q2 : ((k : Int)).toNat = k := by omega
            generalize dst m l i k = z at m4 HK
            generalize minB (dst m l i) k = y at HK ⊢
            have hmin : min y z = if z < y then z else y := by split <;> omega
            rw [hmin] at HK
            clear hmin
            go_wp2_with fail
            go_roundw
            case rel => exact ⟨k + 1, by omega, by go_num, by rw [HK.out], trivial⟩
            case measure => simp [intOf]; omega
          · have t2 : decide ((k : Int) ≤ (m : Int)) = false := decide_eq_false (by omega)
            have e : k = m + 1 := by omega
            subst e
            rw [HX.out]
            go_wp2_with (at_builtin; refine wpList_append_int (w := World.alloc _ _) rfl _ _ rfl w2.heap.size _ (rowI i (std m l)) rfl ?y1 _ 1 (std m l i) rfl ?y2 ?y3 ?y4 ?_)
            case y1 => exact HO.out.alloc _
            case y2 => simp
            case y3 => omega
            case y4 => simp; omega
            intro v1 w3 hown1 _ hb3
            have HO1 := Lib.hid hown1
            have HB3 := Lib.hid (HB.out.trans (((Below.refl w2.heap.size _).alloc hsz _).trans hb3))
            clear hown1 hb3
            go_wp2_with fail
            go_roundw
            case rel => exact ⟨i + 1, by omega, by go_num, by rw [HE.out]; exact HO1.out, HB3.out⟩
            case measure => simp [intOf]; omega
      · have t1 : decide ((i : Int) ≤ (m : Int)) = false := decide_eq_false (by omega)
        have e : i = m + 1 := by omega
        rw [e] at hown
        clear e
        obtain ⟨g, c2, hv, _, hgl⟩ := OwnE.pos hown (by rw [rowI_length]; omega)
        rw [rowI_length] at hv
        subst hv
        have HO := Lib.hid hown
        have HB := Lib.hid (HB2.out.trans (hb.mono HB2.out.size))
        have hszo := HB.out.size
        clear hown hb
        go_wp2_with fail
        obtain ⟨fr, hfr, hfa⟩ : ∃ fr : Nat → Int, (∀ j, fr j = std m l (j + 1) - std m l 0) ∧ solS m l = rowI m fr := ⟨_, fun _ => rfl, rfl⟩
        have HFR := Lib.hid hfr
        have HFA := Lib.hid hfa
        clear hfr hfa HSOL
        go_loopw [13, 14] (fun v ii wr => ∃ i : Nat, i ≤ m ∧ ii = .int .i64 ((i : Int) + 1) ∧ OwnI wr wo.heap.size v (rowI i fr) ∧ Below wo.heap.size wo wr) (fun _ ii _ => m + 1 - (intOf ii).toNat)
        case atStart => exact ⟨0, Nat.zero_le _, rfl, OwnE.nil _ _ _, Below.refl _ _⟩
        case round =>
          obtain ⟨i, hi, rfl, hown, hb⟩ := hrel
          have hlen := rowI_length i fr
          by_cases hlt : i < m
          · have t2 : decide ((i : Int) + 1 ≤ (m : Int)) = true := decide_eq_true (by omega)
            obtain ⟨A1, c1, rfl⟩ := OwnE.slice hown
            have hO' := HO.out.below hb (Nat.le_refl _)
            have r1 := OwnI.cell (rowI_length _ _).symm hO' (j := i + 1) (by omega)
            have r2 := OwnI.cell (rowI_length _ _).symm hO' (j := 0) (by omega)
            rw [rowI_getD _ (by omega)] at r1 r2
            have HR := Lib.hid hown
            have HBS := Lib.hid hb
            have hszs := hb.size
            have HE := Lib.hid (rowI_succ i fr)
            have l1 := HLOW.out (i + 1)
            have l2 := HLOW.out 0
            have u1 := HHI.out (i + 1)
            have u2 := HHI.out 0
            clear hO' hown hb
            have f0 : (0 : Int) ≤ (i : Int) + 1 := by omega
            have f1 : (i : Int) + 1 < (m : Int) + 1 := by omega
            have f2 : ((i : Int) + 1).toNat = i + 1 := by omega
            have HFI := Lib.hid (HFR.out i)
            generalize hz1 : std m l (i + 1) = z1 at r1 l1 u1 HFI
            generalize hz2 : std m l 0 = z2 at r2 l2 u2 HFI
            have HWR : Hid (IntKind.i64.wrap (z1 - z2) = z1 - z2) := Lib.hid (by rw [IntKind.wrap_i64]; omega)
            have HR1 := Lib.hid ((HR.out.alloc (.cells #[.int .i64 (IntKind.i64.wrap (z1 - z2))] 3 (0, 0))).below (Below.drew (Below.refl _ _)) (Nat.le_refl _))
            rw [hlen] at HR1
            go_wp2_with fail
            go_region_held3 (fun w' => w'.cell? ⟨g, i + 1, none⟩ = some (.int .i64 z1) ∧ w'.cell? ⟨g, 0, none⟩ = some (.int .i64 z2)) (first | go_keep | (go_split_ands; exact ⟨(hb3.cell (p := ⟨g, i + 1, none⟩) hgl).trans (by assumption), (hb3.cell (p := ⟨g, 0, none⟩) hgl).trans (by assumption)⟩))
              ((refine step_append_int (by rfl) _ _ (by rfl) wo.heap.size _ (rowI i fr) (by rfl) HR1.out wr.heap.size 1 (IntKind.i64.wrap (z1 - z2)) (by rfl) (by simp) (by omega) (by simp; omega) ?_; intro v1 w3 hown1 _ hb3))
            rw [HWR.out, ← HFI.out] at hown1
            have HO1 := Lib.hid hown1
            have HB3 := Lib.hid (HBS.out.trans ((Below.drew ((Below.refl wo.heap.size wr).alloc hszs _)).trans hb3))
            clear hown1 hb3
            go_wp2_with fail
            go_roundw
            case rel => exact ⟨i + 1, by omega, by go_num, by rw [HE.out]; exact HO1.out, HB3.out⟩
            case measure => simp [intOf]; omega
          · have t2 : decide ((i : Int) + 1 ≤ (m : Int)) = false := decide_eq_false (by omega)
            have e : i = m := by omega
            subst e
            have HR := Lib.hid hown
            have HBS := Lib.hid (HB.out.trans (hb.mono hszo))
            clear hown hb
            go_wp2_with fail
            go_ret2
            exact ⟨HBS.out, .inr (.inr ⟨hv0, HOK.out, _, rfl, by rw [HFA.out]; exact HR.out.mono hszo⟩)⟩
  · generalize validS n xs = e1 at HV hv ⊢
    have t1 : ((e1 : Int) != 0) = true := by simp; omega
    clear hT
    go_enter Try.func15, Try.ntmps15
    go_wp2_with fail
    refine HV.out.mono ?_
    rintro e w1 ⟨rfl, hb1⟩
    have HB1 := Lib.hid hb1
    clear hb1
    go_wp2_with fail
    go_ret2
    exact ⟨HB1.out, .inl ⟨hv, rfl⟩⟩

end Go.Proofs.Ytcmibhechhcpiaa
