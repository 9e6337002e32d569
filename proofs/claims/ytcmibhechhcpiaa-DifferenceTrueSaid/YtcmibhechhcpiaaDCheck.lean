/-
  Difference: CheckRefute of the reference.
-/
import Derived.Test.YtcmibhechhcpiaaDRefute
namespace Go.Proofs.Ytcmibhechhcpiaa
open Go.RowKit

def checkS (n : Int) (xs : List Tst) (r : List (Int × Int)) : Bool := decide (validS n xs = 0) && (decide (1 ≤ r.length) && (decide (r.length ≤ 40) && chk (arcsL xs) r))
theorem Uses.cells {w : World} {B : Nat} {A : Option Addr} {xs : List (Int × Int)} (h : Uses w B A xs) {k : Nat} (hk : k < xs.length) :
    ∃ b off, A = some ⟨b, off, none⟩ ∧ b < B ∧ w.cell? ⟨b, off + k * 2, none⟩ = some (.int .i64 xs[k].1) ∧ w.cell? ⟨b, off + k * 2 + 1, none⟩ = some (.int .i64 xs[k].2) := by
  obtain ⟨b, off, h1, h2, h3⟩ := Reads.at h hk
  exact ⟨b, off, h1, h2, h3 k hk 0 _ rfl, h3 k hk 1 _ rfl⟩

/-- how far the search for one use is -/
def Seek (l : List Arc) (u : Int × Int) (z : Bool) (st p : Nat) (q : Int) (k : Nat) (us ua uq uf : Value) : Prop :=
  (us = .int .i64 st ∧ ua = .int .i64 p ∧ uq = .int .i64 q ∧ uf = .bool false ∧ ∀ a ∈ l.take k, isU u a = false) ∨
  (∃ a, l.find? (isU u) = some a ∧ (z = true ∨ a.f = p) ∧ us = .int .i64 (if z then a.f else st : Nat) ∧ ua = .int .i64 a.g ∧ uq = .int .i64 (q + a.c) ∧ uf = .bool true) ∨
  (∃ (a : Arc) (pp qq : Int), l.find? (isU u) = some a ∧ z = false ∧ a.f ≠ p ∧ us = .int .i64 st ∧ ua = .int .i64 pp ∧ uq = .int .i64 qq ∧ uf = .bool false ∧ ∀ a ∈ l.drop k, isU u a = false)

theorem chkF_none {l : List Arc} {p : Nat} {q : Int} {u : Int × Int} {us : List (Int × Int)} (h : l.find? (isU u) = none) : chkF l p q (u :: us) = none := by
  simp only [chkF, h]
theorem chkF_off {l : List Arc} {p : Nat} {q : Int} {u : Int × Int} {us : List (Int × Int)} {a : Arc} (h : l.find? (isU u) = some a) (hne : a.f ≠ p) : chkF l p q (u :: us) = none := by
  simp only [chkF, h, if_neg hne]
theorem chkF_on {l : List Arc} {p : Nat} {q : Int} {u : Int × Int} {us : List (Int × Int)} {a : Arc} (h : l.find? (isU u) = some a) (he : a.f = p) : chkF l p q (u :: us) = chkF l a.g (q + a.c) us := by
  simp only [chkF, h, if_pos he]

theorem sorted_drop {l : List Arc} (ho : Sorted l) {k : Nat} (hk : k < l.length) {u : Int × Int} (h : isU u l[k] = true) : ∀ a ∈ l.drop (k + 1), isU u a = false := by
  intro a ha
  cases hu : isU u a with
  | false => rfl
  | true =>
    exfalso
    have e := isU_inj ho (List.getElem_mem hk) (List.mem_of_mem_drop ha) h hu
    have hp : (l.drop k).Pairwise fun a b => key a < key b := List.Pairwise.sublist (List.drop_sublist k l) ho
    rw [List.drop_eq_getElem_cons hk] at hp
    have := (List.pairwise_cons.1 hp).1 a ha
    rw [e] at this
    omega

set_option maxRecDepth 100000 in
set_option maxHeartbeats 4000000 in
theorem check_any (n : Int) (xs : List Tst) (A : Option Addr) (c : Nat) (r : List (Int × Int)) (A2 : Option Addr) (c2 : Nat) (w : World) (hl : xs.length ≤ maxLen) (hlr : r.length ≤ maxLen) (hT : Tsts w w.heap.size A xs) (hR : Uses w w.heap.size A2 r) :
    Calls Try.prog 27 #[.int .i64 n, .slice A xs.length c, .slice A2 r.length c2] w fun e w' => Below w.heap.size w w' ∧ e = .returned (.bool (checkS n xs r)) := by
  have HV := Lib.hid (valid_any n xs A c w hl hT)
  have HT := Lib.hid hT
  have HR := Lib.hid hR
  unfold maxLen at hlr
  by_cases hv : validS n xs = 0
  · rw [hv] at HV
    by_cases hr1 : r.length < 1
    · have HX := Lib.hid (show checkS n xs r = false by unfold checkS; rw [decide_eq_true hv, decide_eq_false (by omega)]; rfl)
      clear hT hR hv
      go_enter Try.func27, Try.ntmps27
      go_wp2_with fail
      refine HV.out.mono ?_
      rintro e w1 ⟨rfl, hb1⟩
      have HB1 := Lib.hid hb1
      clear hb1
      go_wp2_with fail
      go_ret
      exact ⟨HB1.out, ret_bool HX.out.symm⟩
    by_cases hr40 : 40 < r.length
    · have HX := Lib.hid (show checkS n xs r = false by unfold checkS; rw [decide_eq_true hv, decide_eq_true (by omega), decide_eq_false (show ¬ r.length ≤ 40 by omega)]; rfl)
      clear hT hR hv
      go_enter Try.func27, Try.ntmps27
      go_wp2_with fail
      refine HV.out.mono ?_
      rintro e w1 ⟨rfl, hb1⟩
      have HB1 := Lib.hid hb1
      clear hb1
      go_wp2_with fail
      go_ret
      exact ⟨HB1.out, ret_bool HX.out.symm⟩
    have HX := Lib.hid (show checkS n xs r = chk (arcsL xs) r by unfold checkS; rw [decide_eq_true hv, decide_eq_true (by omega), decide_eq_true (show r.length ≤ 40 by omega)]; rfl)
    obtain ⟨⟨hn0, hn12⟩, hl40, hg⟩ := validS_zero.1 hv
    obtain ⟨m, rfl⟩ : ∃ m : Nat, n = m := ⟨n.toNat, by omega⟩
    have hin := arcs_in hg
    have hsm := arcs_small hg
    have hso : Sorted (arcsL xs) := sorted_arcs xs xs.length
    rw [show ((m : Int)).toNat = m by omega] at hin
    have HAR := Lib.hid (fun u hu => arcs_any m xs A c u (by omega) hg (by omega) hu)
    have hle := arcsF_len xs xs.length
    have hll : (arcsL xs).length ≤ 1000 := by unfold arcsL; omega
    generalize checkS m xs r = R at HX ⊢
    clear hT hR hg hv hn0 hn12 hle
    generalize arcsL xs = l at HAR hin hsm hso hll HX
    have HSM := Lib.hid hsm
    have HSO := Lib.hid hso
    clear hin hsm hso
    go_enter Try.func27, Try.ntmps27
    go_wp2_with fail
    refine HV.out.mono ?_
    rintro e w1 ⟨rfl, hb1⟩
    have HT1 := Lib.hid (Reads.up HT.out hb1)
    have HB1 := Lib.hid hb1
    clear hb1
    go_wp2_with fail
    refine (HAR.out _ HT1.out).mono ?_
    rintro e w2 ⟨va, rfl, ha, hb2⟩
    obtain ⟨Aa, ca, rfl⟩ := OwnE.slice ha
    have HB2 := Lib.hid (HB1.out.trans (hb2.mono HB1.out.size))
    have HA2 := Lib.hid (ha.mono HB1.out.size)
    clear ha hb2
    go_wp2_with fail
    go_loopw [8, 9, 10, 11] (fun us ua uq ui wr => ∃ (i st p : Nat) (q : Int), i ≤ r.length ∧ ui = .int .i64 i ∧ us = .int .i64 st ∧ ua = .int .i64 p ∧ uq = .int .i64 q ∧ (-(2000001 * (i : Int)) ≤ q ∧ q ≤ 2000001 * (i : Int)) ∧ (0 < i → chk l r = fin st (chkF l p q (r.drop i))) ∧
        OwnA wr w.heap.size (.slice Aa l.length ca) l ∧ Below w.heap.size w wr) (fun _ _ _ ui _ => r.length - (intOf ui).toNat)
    case atStart => exact ⟨0, 0, 0, 0, Nat.zero_le _, rfl, rfl, rfl, rfl, by omega, fun h => by omega, HA2.out, HB2.out⟩
    case round =>
      obtain ⟨i, st, p, q, hi, rfl, rfl, rfl, rfl, hq, hpr, hA, hB⟩ := hrel
      by_cases hlt : i < r.length
      · have hdrop : r.drop i = r[i] :: r.drop (i + 1) := List.drop_eq_getElem_cons hlt
        obtain ⟨b2, o2, rfl, hb2, u0, u1⟩ := Uses.cells HR.out hlt
        have HPR : Hid (0 < i → chk l r = fin st (chkF l p q (r[i] :: r.drop (i + 1)))) := Lib.hid (by rw [← hdrop]; exact hpr)
        have HP0 : Hid (i = 0 → chk l r = match l.find? (isU r[i]) with | none => false | some a => fin a.f (chkF l a.g a.c (r.drop (i + 1)))) := Lib.hid fun h => by
          subst h
          rw [List.drop_zero] at hdrop
          exact (congrArg (chk l) hdrop).trans rfl
        generalize r[i] = u at u0 u1 HPR HP0
        have HA := Lib.hid hA
        have HB := Lib.hid hB
        clear hpr hA hB hdrop
        go_wp2_with fail
        obtain ⟨wo, hwo⟩ : ∃ wo, wo = wr := ⟨_, rfl⟩
        subst hwo
        go_loopw [8, 9, 10, 12, 13] (fun us ua uq uf uk ws => ∃ k : Nat, k ≤ l.length ∧ uk = .int .i64 k ∧ Seek l u (decide (i = 0)) st p q k us ua uq uf ∧ OwnA ws w.heap.size (.slice Aa l.length ca) l ∧ Below w.heap.size w ws) (fun _ _ _ _ uk _ => l.length - (intOf uk).toNat)
        case atStart => exact ⟨0, Nat.zero_le _, rfl, .inl ⟨rfl, rfl, rfl, rfl, fun a ha => by simp at ha⟩, HA.out, HB.out⟩
        case round =>
          obtain ⟨k, hk, rfl, hseek, hA, hB⟩ := hrel
          have HA1 := Lib.hid hA
          have HB1' := Lib.hid hB
          have u0' := (hB.cell (p := ⟨b2, o2 + i * 2, none⟩) hb2).trans u0
          have u1' := (hB.cell (p := ⟨b2, o2 + i * 2 + 1, none⟩) hb2).trans u1
          rcases hseek with ⟨rfl, rfl, rfl, rfl, hno⟩ | ⟨a, hfa, hz, rfl, rfl, rfl, rfl⟩ | ⟨a, pp, qq, hfa, hz, hne, rfl, rfl, rfl, rfl, hno⟩
          · by_cases hlk : k < l.length
            · obtain ⟨b, off, rfl, hbb, k0, k1, k2, k3, k4⟩ := Arcs.cells hA.read hlk
              have HC := Lib.hid (HSM.out _ (List.getElem_mem hlk))
              have HDR : Hid (isU u l[k] = true → ∀ a ∈ l.drop (k + 1), isU u a = false) := Lib.hid fun h => sorted_drop HSO.out hlk h
              have HFD : Hid (isU u l[k] = true → l.find? (isU u) = some l[k]) := Lib.hid fun h => isU_find HSO.out (List.getElem_mem hlk) h
              have HNX : Hid (isU u l[k] = false → ∀ a ∈ l.take (k + 1), isU u a = false) := Lib.hid fun h a ha => by
                rw [List.take_succ_eq_append_getElem hlk, List.mem_append] at ha
                rcases ha with ha | ha
                · exact hno a ha
                · simp at ha; rw [ha]; exact h
              have i0 : (0 : Int) ≤ (i : Int) := by omega
              have i1 : (i : Int) < (r.length : Int) := by omega
              have i2 : ((i : Int)).toNat = i := by omega
              have l0 : (0 : Int) ≤ (k : Int) := by omega
              have l1 : (k : Int) < (l.length : Int) := by omega
              have l2 : ((k : Int)).toNat = k := by omega
              generalize l[k] = a at k0 k1 k2 k3 k4 HC HDR HFD HNX
              obtain ⟨xt, xo, xf, xg, xc⟩ := a
              obtain ⟨uu, uv⟩ := u
              dsimp only at k0 k1 k2 k3 k4 HC u0' u1'
              obtain ⟨hc1, hc2⟩ := HC.out
              clear hA hB hno HC
              by_cases h1 : (xt : Int) = uu
              · by_cases h2 : xo = uv
                · subst h1 h2
                  have HM : Hid (isU ((xt : Int), xo) ⟨xt, xo, xf, xg, xc⟩ = true) := Lib.hid (isU_iff.2 rfl)
                  have HF1 := Lib.hid (HFD.out HM.out)
                  have HD1 := Lib.hid (HDR.out HM.out)
                  clear HFD HDR HNX HM
                  by_cases hi0 : i = 0
                  · have t0 : ((i : Int) == 0) = true := by simp [hi0]
                    have HI0 := Lib.hid hi0
                    clear hi0
                    go_wp2_with fail
                    go_region
                    go_wp2_with fail
                    go_region
                    go_wp2_with fail
                    go_region
                    go_wp2_with fail
                    go_roundw
                    case rel => exact ⟨k + 1, by omega, by go_num, .inr (.inl ⟨_, HF1.out, .inl (decide_eq_true HI0.out), by rw [decide_eq_true HI0.out]; rfl, rfl, by go_num, rfl⟩), HA1.out.below (Below.drew (Below.drew (Below.drew (Below.refl _ _)))) (Nat.le_refl _), Below.drew (Below.drew (Below.drew HB1'.out))⟩
                    case measure => simp [intOf]; omega
                  · have t0 : ((i : Int) == 0) = false := by simp; omega
                    by_cases hp : xf = p
                    · subst hp
                      go_wp2_with fail
                      go_region
                      go_wp2_with fail
                      go_region
                      go_wp2_with fail
                      go_roundw
                      case rel => exact ⟨k + 1, by omega, by go_num, .inr (.inl ⟨_, HF1.out, .inr rfl, by rw [decide_eq_false hi0]; rfl, rfl, by go_num, rfl⟩), HA1.out.below (Below.drew (Below.drew (Below.refl _ _))) (Nat.le_refl _), Below.drew (Below.drew HB1'.out)⟩
                      case measure => simp [intOf]; omega
                    · have t1 : ((xf : Int) == (p : Int)) = false := by simp; omega
                      have HNE := Lib.hid hp
                      clear hp
                      go_wp2_with fail
                      go_region
                      go_wp2_with fail
                      go_region
                      go_wp2_with fail
                      go_roundw
                      case rel => exact ⟨k + 1, by omega, by go_num, .inr (.inr ⟨_, _, _, HF1.out, decide_eq_false hi0, HNE.out, rfl, rfl, rfl, rfl, HD1.out⟩), HA1.out.below (Below.drew (Below.drew (Below.refl _ _))) (Nat.le_refl _), Below.drew (Below.drew HB1'.out)⟩
                      case measure => simp [intOf]; omega
                · have HX1 := Lib.hid (HNX.out (by unfold isU; rw [decide_eq_false (show ¬ xo = uv from h2), Bool.and_false]))
                  clear HFD HDR HNX
                  go_wp2_with fail
                  go_region
                  go_wp2_with fail
                  go_roundw
                  case rel => exact ⟨k + 1, by omega, by go_num, .inl ⟨rfl, rfl, rfl, rfl, HX1.out⟩, HA1.out.below (Below.drew (Below.refl _ _)) (Nat.le_refl _), Below.drew HB1'.out⟩
                  case measure => simp [intOf]; omega
              · have HX1 := Lib.hid (HNX.out (by unfold isU; rw [decide_eq_false (show ¬ (xt : Int) = uu from h1), Bool.false_and]))
                clear HFD HDR HNX
                go_wp2_with fail
                go_region
                go_wp2_with fail
                go_roundw
                case rel => exact ⟨k + 1, by omega, by go_num, .inl ⟨rfl, rfl, rfl, rfl, HX1.out⟩, HA1.out.below (Below.drew (Below.refl _ _)) (Nat.le_refl _), Below.drew HB1'.out⟩
                case measure => simp [intOf]; omega
            · have e : k = l.length := by omega
              rw [e, List.take_length] at hno
              have HN : Hid (l.find? (isU u) = none) := Lib.hid (List.find?_eq_none.2 fun a ha => by rw [hno a ha]; simp)
              have HRF : Hid (R = false) := Lib.hid (by
                rw [HX.out]
                by_cases h : i = 0
                · rw [HP0.out h, HN.out]
                · rw [HPR.out (by omega), chkF_none HN.out]; rfl)
              clear hno hA hB e
              go_wp2_with fail
              go_ret
              exact ⟨HB1'.out, ret_bool HRF.out.symm⟩
          · have hca := HSM.out a (List.mem_of_find?_eq_some hfa)
            have HN : Hid (chk l r = fin (if decide (i = 0) then a.f else st) (chkF l a.g (q + a.c) (r.drop (i + 1)))) := Lib.hid (by
              by_cases h : i = 0
              · rw [HP0.out h, hfa, decide_eq_true h, if_pos rfl, show q = 0 by omega, Int.zero_add]
              · rw [decide_eq_false h] at hz ⊢
                rw [HPR.out (by omega), chkF_on hfa (by rcases hz with hz | hz; (cases hz); exact hz), if_neg (by simp)])
            generalize (if decide (i = 0) then a.f else st) = st2 at HN
            clear hA hB hz hfa
            by_cases hlk : k < l.length
            all_goals
              go_wp2_with fail
              go_roundw
              case rel => exact ⟨i + 1, st2, a.g, q + a.c, by omega, by go_num, rfl, rfl, rfl, by omega, fun _ => HN.out, HA1.out, HB1'.out⟩
              case measure => simp [intOf]; omega
          · by_cases hlk : k < l.length
            · obtain ⟨b, off, rfl, hbb, k0, k1, k2, k3, k4⟩ := Arcs.cells hA.read hlk
              rw [List.drop_eq_getElem_cons hlk] at hno
              have hn1 : isU u l[k] = false := hno _ List.mem_cons_self
              have HNX : Hid (∀ a ∈ l.drop (k + 1), isU u a = false) := Lib.hid fun a ha => hno a (List.mem_cons_of_mem _ ha)
              have HFA := Lib.hid hfa
              have HZ := Lib.hid hz
              have HNE := Lib.hid hne
              have i0 : (0 : Int) ≤ (i : Int) := by omega
              have i1 : (i : Int) < (r.length : Int) := by omega
              have i2 : ((i : Int)).toNat = i := by omega
              have l0 : (0 : Int) ≤ (k : Int) := by omega
              have l1 : (k : Int) < (l.length : Int) := by omega
              have l2 : ((k : Int)).toNat = k := by omega
              generalize l[k] = y at k0 k1 k2 k3 k4 hn1
              obtain ⟨xt, xo, xf, xg, xc⟩ := y
              dsimp only at k0 k1 k2 k3 k4
              have hd : ¬ (xt : Int) = u.1 ∨ ((xt : Int) = u.1 ∧ ¬ xo = u.2) := by
                by_cases h1 : (xt : Int) = u.1
                · by_cases h2 : xo = u.2
                  · exfalso
                    unfold isU at hn1
                    dsimp only at hn1
                    rw [decide_eq_true h1, decide_eq_true h2] at hn1
                    cases hn1
                  · exact .inr ⟨h1, h2⟩
                · exact .inl h1
              clear hA hB hno hfa hz hne hn1
              rcases hd with h1 | ⟨h1, h2⟩
              all_goals
                go_wp2_with fail
                go_region
                go_wp2_with fail
                go_roundw
                case rel => exact ⟨k + 1, by omega, by go_num, .inr (.inr ⟨a, pp, qq, HFA.out, HZ.out, HNE.out, rfl, rfl, rfl, rfl, HNX.out⟩), HA1.out.below (Below.drew (Below.refl _ _)) (Nat.le_refl _), Below.drew HB1'.out⟩
                case measure => simp [intOf]; omega
            · have HRF : Hid (R = false) := Lib.hid (by
                rw [HX.out]
                have h : ¬ i = 0 := of_decide_eq_false hz
                rw [HPR.out (by omega), chkF_off hfa hne]; rfl)
              clear hno hA hB hfa hz hne
              go_wp2_with fail
              go_ret
              exact ⟨HB1'.out, ret_bool HRF.out.symm⟩
      · have e : i = r.length := by omega
        subst e
        have HE := Lib.hid (show R = (decide (p = st) && decide (q < 0)) by rw [HX.out, hpr (by omega), List.drop_length]; rfl)
        have HB' := Lib.hid hB
        clear hpr hA hB
        by_cases h1 : p = st
        · subst h1
          rw [decide_eq_true rfl, Bool.true_and] at HE
          go_wp2_with fail
          go_ret
          exact ⟨HB'.out, ret_bool (by rw [HE.out])⟩
        · have t1 : ((p : Int) == (st : Int)) = false := by simp; omega
          rw [decide_eq_false h1, Bool.false_and] at HE
          clear h1
          go_wp2_with fail
          go_ret
          exact ⟨HB'.out, ret_bool (by rw [HE.out])⟩
  · have HX := Lib.hid (show checkS n xs r = false by unfold checkS; rw [decide_eq_false hv]; rfl)
    generalize validS n xs = e1 at HV hv
    have t1 : ((e1 : Int) != 0) = true := by simp; omega
    clear hT hR
    go_enter Try.func27, Try.ntmps27
    go_wp2_with fail
    refine HV.out.mono ?_
    rintro e w1 ⟨rfl, hb1⟩
    have HB1 := Lib.hid hb1
    clear hb1
    go_wp2_with fail
    go_ret
    exact ⟨HB1.out, ret_bool HX.out.symm⟩

end Go.Proofs.Ytcmibhechhcpiaa
