/-
  PartitionParts: for every slice of arrays of two bytes and every byte the law returns true. No condition.
-/
import Derived.Test.YtdflgcfjfgojkaaParts
namespace Go.Proofs.Ytdflgcfjfgojkaa
open Go.RowKit

/-- the loop that builds the pairs: one round's frame is cut from what follows -/
def Built (w : World) (ps : List (Nat × Nat)) (v : Value) (wx : World) : Prop := OwnP wx w.heap.size v ps ∧ Below w.heap.size w wx

theorem u8_nat {m : Int} (h : (Lit.int .u8 m).wf = true) : ∃ k : Nat, m = k ∧ k < 256 := by
  simp [Lit.wf, IntKind.min, IntKind.max, IntKind.signed, IntKind.bits] at h
  exact ⟨m.toNat, by omega, by omega⟩

set_option maxRecDepth 100000 in
set_option maxHeartbeats 8000000 in
theorem lawParts (qs : List (Nat × Nat)) (A : Option Addr) (c : Nat) (at0 : Int) (w : World) (hl : qs.length ≤ c) (hm : c ≤ maxLen) (hA : Twos w w.heap.size A qs) (hwf : (Lit.int .u8 at0).wf = true) :
    Calls Try.prog 8 #[.slice A qs.length c, .int .u8 at0] w fun e w' => e = .returned (.bool true) ∧ Below w.heap.size w w' := by
  obtain ⟨mm, rfl, hmm⟩ := u8_nat hwf
  have HA := Lib.hid hA
  have hq : qs.length ≤ 9223372036854775807 := by unfold maxLen at hm; omega
  clear hA hm hwf
  by_cases h30 : 30 < qs.length
  · go_enter Try.func8, Try.ntmps8
    go_wp2_with fail
    refine (awake_any _).mono ?_
    rintro e w1 ⟨rfl, hb1⟩
    have HB1 := Lib.hid hb1
    clear hb1
    go_wp2_with fail
    refine (awake_any _).mono ?_
    rintro e w2 ⟨rfl, hb2⟩
    go_wp2_with fail
    go_ret
    exact ⟨rfl, HB1.out.trans (hb2.mono HB1.out.size)⟩
  · go_enter Try.func8, Try.ntmps8
    go_wp2_with fail
    refine (awake_any _).mono ?_
    rintro e w1 ⟨rfl, hb1⟩
    have HB1 := Lib.hid hb1
    clear hb1
    go_wp2_with fail
    go_loopw [5, 29] (fun v x wr => ∃ i : Nat, i ≤ qs.length ∧ x = .int .i64 i ∧ OwnP wr w.heap.size v ((pairsOfB qs).take i) ∧ Below w.heap.size w wr) (fun _ x _ => qs.length - (intOf x).toNat)
    case atStart => exact ⟨0, Nat.zero_le _, rfl, World.ownsRow_nil _ _ _ _, HB1.out⟩
    case round =>
      obtain ⟨i, hi, rfl, hown, hbel⟩ := hrel
      have hsz := hbel.size
      by_cases hlt : i < qs.length
      · obtain ⟨b, off, rfl, hb, l1, l2, c1, c2⟩ := (HA.out.below hbel).at hlt
        have HS := Lib.hid (pairsOfB_take qs hlt)
        have HW := Lib.hid hown
        have HG := Lib.hid hbel
        have hlen : ((pairsOfB qs).take i).length ≤ 30 := by rw [List.length_take]; omega
        clear hown hbel
        generalize (pAt qs i).1 = x at l1 c1 HS
        generalize (pAt qs i).2 = y at l2 c2 HS
        generalize (pairsOfB qs).take i = ps at HW HS hlen
        go_wp2_with (at_builtin; refine wpList_append_pair (w := (wr.alloc _).alloc _) rfl _ _ rfl w.heap.size _ ps rfl ?y1 (wr.heap.size + 1) 1 (x % 12, y % 12) rfl ?y2 ?y3 ?y4 ?_)
        case y1 => exact World.ownsRow.alloc (World.ownsRow.alloc HW.out _) _
        case y2 => simpa using heap_two' wr (.cells #[.int .u8 (x : Int), .int .u8 (y : Int)] 44) (.cells #[.int .i64 ((x : Int) % 12), .int .i64 ((y : Int) % 12)] 46)
        case y3 => omega
        case y4 => simp; omega
        intro v2 w2 hown2 hb2
        have HW2 := Lib.hid hown2
        have HB2 := Lib.hid (((HG.out.alloc hsz _).alloc (by simp; omega) _).trans hb2)
        clear hown2 hb2
        go_wp2_with fail
        go_roundw
        case rel => exact ⟨i + 1, by omega, by go_num, OwnP.cast HS.out.symm HW2.out, HB2.out⟩
        case measure => simp [intOf]; omega
      · have hT : (pairsOfB qs).take i = pairsOfB qs := List.take_of_length_le (by simp [pairsOfB]; omega)
        rw [hT] at hown
        have hr := pairsOfB_inR qs
        have hpl : (pairsOfB qs).length ≤ 30 := by simp [pairsOfB]; omega
        have HBL := Lib.hid hbel
        have HR := Lib.hid hr
        clear hT hr hbel
        generalize pairsOfB qs = ps at hown HR hpl
        obtain ⟨w5, rfl⟩ : ∃ w5 : World, w5 = wr := ⟨_, rfl⟩
        obtain ⟨kk, hkk⟩ : ∃ kk : Nat, mm % (ps.length + 1) = kk := ⟨_, rfl⟩
        have hkl : kk ≤ ps.length := by have := Nat.mod_lt mm (show 0 < ps.length + 1 by omega); omega
        have hki : (mm : Int) % ((ps.length : Int) + 1) = (kk : Int) := by rw [← hkk]; simp
        have HPm := Lib.hid (gen_split HR.out kk)
        have HPe := Lib.hid (fun (qs' : List (Nat × Nat)) (h : qs'.Perm ps) => gen_perm h HR.out)
        have HLt := Lib.hid (show (ps.take kk).length = kk by rw [List.length_take]; omega)
        have HLd := Lib.hid (show (ps.drop kk).length = ps.length - kk from List.length_drop)
        have HRt := Lib.hid (inR_take HR.out kk)
        have HRd := Lib.hid (inR_drop HR.out kk)
        obtain ⟨P, hP⟩ : ∃ P, genS 12 ps = P := ⟨_, rfl⟩
        have HPl := Lib.hid (show P.length ≤ 1000000 by rw [← hP, genS_length]; decide)
        have HP := Lib.hid hP
        rw [hP] at HPm HPe
        clear hkk hP
        rcases hown.2 with ⟨hv, hz⟩ | ⟨g, cap, cur, hv, hg, _, hnc, hcm, _⟩
        · subst hv
          have hps : ps = [] := List.eq_nil_of_length_eq_zero hz
          subst hps
          have hk0 : kk = 0 := by simpa using hkl
          subst hk0
          clear hown hki hz hkl
          have hw0 : OwnP w5 w.heap.size (.slice none 0 0) [] := World.ownsRow_nil _ _ _ _
          go_wp2_with fail
          have HB5 := Lib.hid HBL.out
          refine (genI ([] : List (Nat × Nat)) 0 P HP.out _ _ _ rfl (by omega) HR.out (.inl rfl)).mono ?_
          rintro e w6 ⟨A1, c1, rfl, ho1, hb6⟩
          have HP1_6 := Lib.hid ho1
          have HB6 := Lib.hid (HB5.out.trans (hb6.mono HB5.out.size))
          clear hb6 ho1 HB5
          go_wp2_with fail
          refine (genI (([] : List (Nat × Nat)).take 0) 0 _ rfl _ _ _ HLt.out (by omega) HRt.out (.inl (by simp))).mono ?_
          rintro e w7 ⟨A2, c2, rfl, ho2, hb7⟩
          have HP1_7 := Lib.hid (HP1_6.out.below hb7 (Nat.le_refl _))
          have HP2_7 := Lib.hid ho2
          have HB7 := Lib.hid (HB6.out.trans (hb7.mono HB6.out.size))
          clear hb7 ho2 HB6 HP1_6
          go_wp2_with fail
          refine (genI (([] : List (Nat × Nat)).drop 0) 0 _ rfl _ _ _ HLd.out (by omega) HRd.out (.inl (by simp))).mono ?_
          rintro e w8 ⟨A3, c3, rfl, ho3, hb8⟩
          have HP1_8 := Lib.hid (HP1_7.out.below hb8 (Nat.le_refl _))
          have HP2_8 := Lib.hid (HP2_7.out.below hb8 (Nat.le_refl _))
          have HP3_8 := Lib.hid ho3
          have HB8 := Lib.hid (HB7.out.trans (hb8.mono HB7.out.size))
          clear hb8 ho3 HB7 HP1_7 HP2_7
          go_wp2_with fail
          refine (join12 _ _ P HPm.out _ _ _ _ _ (V_gen HRt.out) (V_gen HRd.out) (genS_length _ _) (genS_length _ _) HP2_8.out HP3_8.out).mono ?_
          rintro e w9 ⟨A4, c4, rfl, ho4, hb9⟩
          have HP1_9 := Lib.hid (HP1_8.out.below hb9 (Nat.le_refl _))
          have HP2_9 := Lib.hid (HP2_8.out.below hb9 (Nat.le_refl _))
          have HP3_9 := Lib.hid (HP3_8.out.below hb9 (Nat.le_refl _))
          have HP4_9 := Lib.hid ho4
          have HB9 := Lib.hid (HB8.out.trans (hb9.mono HB8.out.size))
          clear hb9 ho4 HB8 HP1_8 HP2_8 HP3_8
          go_wp2_with fail
          refine (reverse_nil _).mono ?_
          rintro e w' ⟨rfl, rfl⟩
          go_wp2_with fail
          refine (genI ([] : List (Nat × Nat)) 0 P HP.out _ _ _ rfl (by omega) HR.out (.inl rfl)).mono ?_
          rintro e w11 ⟨A5, c5, rfl, ho5, hb11⟩
          have HB10 := Lib.hid HB9.out
          have HP1_10 := Lib.hid HP1_9.out
          have HP2_10 := Lib.hid HP2_9.out
          have HP3_10 := Lib.hid HP3_9.out
          have HP4_10 := Lib.hid HP4_9.out
          have HP1_11 := Lib.hid (HP1_10.out.below hb11 (Nat.le_refl _))
          have HP2_11 := Lib.hid (HP2_10.out.below hb11 (Nat.le_refl _))
          have HP3_11 := Lib.hid (HP3_10.out.below hb11 (Nat.le_refl _))
          have HP4_11 := Lib.hid (HP4_10.out.below hb11 (Nat.le_refl _))
          have HP5_11 := Lib.hid ho5
          have HB11 := Lib.hid (HB10.out.trans (hb11.mono HB10.out.size))
          clear hb11 ho5 HB10 HP1_10 HP2_10 HP3_10 HP4_10
          go_wp2_with fail
          refine (sameOwn P _ _ _ _ _ HPl.out HP1_11.out HP4_11.out).mono ?_
          rintro e w12 ⟨rfl, hb12⟩
          have HP1_12 := Lib.hid (HP1_11.out.below hb12 (Nat.le_refl _))
          have HP2_12 := Lib.hid (HP2_11.out.below hb12 (Nat.le_refl _))
          have HP3_12 := Lib.hid (HP3_11.out.below hb12 (Nat.le_refl _))
          have HP4_12 := Lib.hid (HP4_11.out.below hb12 (Nat.le_refl _))
          have HP5_12 := Lib.hid (HP5_11.out.below hb12 (Nat.le_refl _))
          have HB12 := Lib.hid (HB11.out.trans (hb12.mono HB11.out.size))
          clear hb12 HB11 HP1_11 HP2_11 HP3_11 HP4_11 HP5_11
          go_wp2_with fail
          refine (sameOwn P _ _ _ _ _ HPl.out HP1_12.out HP5_12.out).mono ?_
          rintro e w13 ⟨rfl, hb13⟩
          go_wp2_with fail
          go_ret
          exact ⟨rfl, HB12.out.trans (hb13.mono HB12.out.size)⟩
        · subst hv
          have HO := Lib.hid hown
          have hcm' : cap ≤ 9223372036854775807 := by unfold maxLen at hcm; omega
          clear hown hcm
          by_cases hck : cap = kk
          · subst hck
            have k0 : (0 : Int) ≤ (cap : Int) := by omega
            go_wp2_with fail
            rw [hki]
            have HB5 := Lib.hid HBL.out
            have HO5 := Lib.hid HO.out
            refine (genI ps ps.length P HP.out _ _ _ rfl (by omega) HR.out (pairs_of HO5.out)).mono ?_
            rintro e w6 ⟨A1, c1, rfl, ho1, hb6⟩
            have HO6 := Lib.hid (HO5.out.below hb6 (Nat.le_refl _))
            have HP1_6 := Lib.hid ho1
            have HB6 := Lib.hid (HB5.out.trans (hb6.mono HB5.out.size))
            clear hb6 ho1 HB5 HO5
            go_wp2_with fail
            refine (genI (ps.take cap) cap _ rfl _ _ _ HLt.out (by omega) HRt.out ((pairs_of HO6.out).take _)).mono ?_
            rintro e w7 ⟨A2, c2, rfl, ho2, hb7⟩
            have HO7 := Lib.hid (HO6.out.below hb7 (Nat.le_refl _))
            have HP1_7 := Lib.hid (HP1_6.out.below hb7 (Nat.le_refl _))
            have HP2_7 := Lib.hid ho2
            have HB7 := Lib.hid (HB6.out.trans (hb7.mono HB6.out.size))
            clear hb7 ho2 HB6 HO6 HP1_6
            go_wp2_with fail
            refine (genI (ps.drop cap) 0 _ rfl _ _ _ (by rw [HLd.out]; omega) (by omega) HRd.out (.inl (List.drop_eq_nil_of_le (by omega)))).mono ?_
            rintro e w8 ⟨A3, c3, rfl, ho3, hb8⟩
            have HO8 := Lib.hid (HO7.out.below hb8 (Nat.le_refl _))
            have HP1_8 := Lib.hid (HP1_7.out.below hb8 (Nat.le_refl _))
            have HP2_8 := Lib.hid (HP2_7.out.below hb8 (Nat.le_refl _))
            have HP3_8 := Lib.hid ho3
            have HB8 := Lib.hid (HB7.out.trans (hb8.mono HB7.out.size))
            clear hb8 ho3 HB7 HO7 HP1_7 HP2_7
            go_wp2_with fail
            refine (join12 _ _ P HPm.out _ _ _ _ _ (V_gen HRt.out) (V_gen HRd.out) (genS_length _ _) (genS_length _ _) HP2_8.out HP3_8.out).mono ?_
            rintro e w9 ⟨A4, c4, rfl, ho4, hb9⟩
            have HO9 := Lib.hid (HO8.out.below hb9 (Nat.le_refl _))
            have HP1_9 := Lib.hid (HP1_8.out.below hb9 (Nat.le_refl _))
            have HP2_9 := Lib.hid (HP2_8.out.below hb9 (Nat.le_refl _))
            have HP3_9 := Lib.hid (HP3_8.out.below hb9 (Nat.le_refl _))
            have HP4_9 := Lib.hid ho4
            have HB9 := Lib.hid (HB8.out.trans (hb9.mono HB8.out.size))
            clear hb9 ho4 HB8 HO8 HP1_8 HP2_8 HP3_8
            go_wp2_with fail
            refine (reverseO ps g cap ps.length w.heap.size w9 rfl (by omega) HB9.out.size HO9.out).mono ?_
            rintro e w10 ⟨rfl, ⟨rs, hrs, hor⟩, hkeep, hb10⟩
            obtain ⟨hrr, hrg⟩ := HPe.out rs hrs
            have HO10 := Lib.hid hor
            have HP1_10 := Lib.hid (hkeep _ _ _ HP1_9.out)
            have HP2_10 := Lib.hid (hkeep _ _ _ HP2_9.out)
            have HP3_10 := Lib.hid (hkeep _ _ _ HP3_9.out)
            have HP4_10 := Lib.hid (hkeep _ _ _ HP4_9.out)
            have HB10 := Lib.hid (HB9.out.trans hb10)
            have HRL := Lib.hid hrs.length_eq
            have HRR := Lib.hid hrr
            have HRG := Lib.hid hrg
            clear hrs hor hkeep hb10 hrr hrg HB9 HO9 HP1_9 HP2_9 HP3_9 HP4_9
            go_wp2_with fail
            refine (genI rs ps.length P HRG.out _ _ _ HRL.out (by omega) HRR.out (pairs_of HO10.out)).mono ?_
            rintro e w11 ⟨A5, c5, rfl, ho5, hb11⟩
            have HO11 := Lib.hid (HO10.out.below hb11 (Nat.le_refl _))
            have HP1_11 := Lib.hid (HP1_10.out.below hb11 (Nat.le_refl _))
            have HP2_11 := Lib.hid (HP2_10.out.below hb11 (Nat.le_refl _))
            have HP3_11 := Lib.hid (HP3_10.out.below hb11 (Nat.le_refl _))
            have HP4_11 := Lib.hid (HP4_10.out.below hb11 (Nat.le_refl _))
            have HP5_11 := Lib.hid ho5
            have HB11 := Lib.hid (HB10.out.trans (hb11.mono HB10.out.size))
            clear hb11 ho5 HB10 HO10 HP1_10 HP2_10 HP3_10 HP4_10
            go_wp2_with fail
            refine (sameOwn P _ _ _ _ _ HPl.out HP1_11.out HP4_11.out).mono ?_
            rintro e w12 ⟨rfl, hb12⟩
            have HO12 := Lib.hid (HO11.out.below hb12 (Nat.le_refl _))
            have HP1_12 := Lib.hid (HP1_11.out.below hb12 (Nat.le_refl _))
            have HP2_12 := Lib.hid (HP2_11.out.below hb12 (Nat.le_refl _))
            have HP3_12 := Lib.hid (HP3_11.out.below hb12 (Nat.le_refl _))
            have HP4_12 := Lib.hid (HP4_11.out.below hb12 (Nat.le_refl _))
            have HP5_12 := Lib.hid (HP5_11.out.below hb12 (Nat.le_refl _))
            have HB12 := Lib.hid (HB11.out.trans (hb12.mono HB11.out.size))
            clear hb12 HB11 HO11 HP1_11 HP2_11 HP3_11 HP4_11 HP5_11
            go_wp2_with fail
            refine (sameOwn P _ _ _ _ _ HPl.out HP1_12.out HP5_12.out).mono ?_
            rintro e w13 ⟨rfl, hb13⟩
            go_wp2_with fail
            go_ret
            exact ⟨rfl, HB12.out.trans (hb13.mono HB12.out.size)⟩
          · have hck' : kk < cap := by omega
            have k0 : (0 : Int) ≤ (kk : Int) := by omega
            go_wp2_with fail
            rw [hki]
            have HB5 := Lib.hid HBL.out
            have HO5 := Lib.hid HO.out
            refine (genI ps ps.length P HP.out _ _ _ rfl (by omega) HR.out (pairs_of HO5.out)).mono ?_
            rintro e w6 ⟨A1, c1, rfl, ho1, hb6⟩
            have HO6 := Lib.hid (HO5.out.below hb6 (Nat.le_refl _))
            have HP1_6 := Lib.hid ho1
            have HB6 := Lib.hid (HB5.out.trans (hb6.mono HB5.out.size))
            clear hb6 ho1 HB5 HO5
            go_wp2_with fail
            refine (genI (ps.take kk) kk _ rfl _ _ _ HLt.out (by omega) HRt.out ((pairs_of HO6.out).take _)).mono ?_
            rintro e w7 ⟨A2, c2, rfl, ho2, hb7⟩
            have HO7 := Lib.hid (HO6.out.below hb7 (Nat.le_refl _))
            have HP1_7 := Lib.hid (HP1_6.out.below hb7 (Nat.le_refl _))
            have HP2_7 := Lib.hid ho2
            have HB7 := Lib.hid (HB6.out.trans (hb7.mono HB6.out.size))
            clear hb7 ho2 HB6 HO6 HP1_6
            go_wp2_with fail
            refine (genI (ps.drop kk) (ps.length - kk) _ rfl _ _ _ HLd.out (by omega) HRd.out (by simpa using (pairs_of HO7.out).drop kk)).mono ?_
            rintro e w8 ⟨A3, c3, rfl, ho3, hb8⟩
            have HO8 := Lib.hid (HO7.out.below hb8 (Nat.le_refl _))
            have HP1_8 := Lib.hid (HP1_7.out.below hb8 (Nat.le_refl _))
            have HP2_8 := Lib.hid (HP2_7.out.below hb8 (Nat.le_refl _))
            have HP3_8 := Lib.hid ho3
            have HB8 := Lib.hid (HB7.out.trans (hb8.mono HB7.out.size))
            clear hb8 ho3 HB7 HO7 HP1_7 HP2_7
            go_wp2_with fail
            refine (join12 _ _ P HPm.out _ _ _ _ _ (V_gen HRt.out) (V_gen HRd.out) (genS_length _ _) (genS_length _ _) HP2_8.out HP3_8.out).mono ?_
            rintro e w9 ⟨A4, c4, rfl, ho4, hb9⟩
            have HO9 := Lib.hid (HO8.out.below hb9 (Nat.le_refl _))
            have HP1_9 := Lib.hid (HP1_8.out.below hb9 (Nat.le_refl _))
            have HP2_9 := Lib.hid (HP2_8.out.below hb9 (Nat.le_refl _))
            have HP3_9 := Lib.hid (HP3_8.out.below hb9 (Nat.le_refl _))
            have HP4_9 := Lib.hid ho4
            have HB9 := Lib.hid (HB8.out.trans (hb9.mono HB8.out.size))
            clear hb9 ho4 HB8 HO8 HP1_8 HP2_8 HP3_8
            go_wp2_with fail
            refine (reverseO ps g cap ps.length w.heap.size w9 rfl (by omega) HB9.out.size HO9.out).mono ?_
            rintro e w10 ⟨rfl, ⟨rs, hrs, hor⟩, hkeep, hb10⟩
            obtain ⟨hrr, hrg⟩ := HPe.out rs hrs
            have HO10 := Lib.hid hor
            have HP1_10 := Lib.hid (hkeep _ _ _ HP1_9.out)
            have HP2_10 := Lib.hid (hkeep _ _ _ HP2_9.out)
            have HP3_10 := Lib.hid (hkeep _ _ _ HP3_9.out)
            have HP4_10 := Lib.hid (hkeep _ _ _ HP4_9.out)
            have HB10 := Lib.hid (HB9.out.trans hb10)
            have HRL := Lib.hid hrs.length_eq
            have HRR := Lib.hid hrr
            have HRG := Lib.hid hrg
            clear hrs hor hkeep hb10 hrr hrg HB9 HO9 HP1_9 HP2_9 HP3_9 HP4_9
            go_wp2_with fail
            refine (genI rs ps.length P HRG.out _ _ _ HRL.out (by omega) HRR.out (pairs_of HO10.out)).mono ?_
            rintro e w11 ⟨A5, c5, rfl, ho5, hb11⟩
            have HO11 := Lib.hid (HO10.out.below hb11 (Nat.le_refl _))
            have HP1_11 := Lib.hid (HP1_10.out.below hb11 (Nat.le_refl _))
            have HP2_11 := Lib.hid (HP2_10.out.below hb11 (Nat.le_refl _))
            have HP3_11 := Lib.hid (HP3_10.out.below hb11 (Nat.le_refl _))
            have HP4_11 := Lib.hid (HP4_10.out.below hb11 (Nat.le_refl _))
            have HP5_11 := Lib.hid ho5
            have HB11 := Lib.hid (HB10.out.trans (hb11.mono HB10.out.size))
            clear hb11 ho5 HB10 HO10 HP1_10 HP2_10 HP3_10 HP4_10
            go_wp2_with fail
            refine (sameOwn P _ _ _ _ _ HPl.out HP1_11.out HP4_11.out).mono ?_
            rintro e w12 ⟨rfl, hb12⟩
            have HO12 := Lib.hid (HO11.out.below hb12 (Nat.le_refl _))
            have HP1_12 := Lib.hid (HP1_11.out.below hb12 (Nat.le_refl _))
            have HP2_12 := Lib.hid (HP2_11.out.below hb12 (Nat.le_refl _))
            have HP3_12 := Lib.hid (HP3_11.out.below hb12 (Nat.le_refl _))
            have HP4_12 := Lib.hid (HP4_11.out.below hb12 (Nat.le_refl _))
            have HP5_12 := Lib.hid (HP5_11.out.below hb12 (Nat.le_refl _))
            have HB12 := Lib.hid (HB11.out.trans (hb12.mono HB11.out.size))
            clear hb12 HB11 HO11 HP1_11 HP2_11 HP3_11 HP4_11 HP5_11
            go_wp2_with fail
            refine (sameOwn P _ _ _ _ _ HPl.out HP1_12.out HP5_12.out).mono ?_
            rintro e w13 ⟨rfl, hb13⟩
            go_wp2_with fail
            go_ret
            exact ⟨rfl, HB12.out.trans (hb13.mono HB12.out.size)⟩

end Go.Proofs.Ytdflgcfjfgojkaa
namespace Go.Proofs.Ytdflgcfjfgojkaa.partitionParts
open Go.ChangeShapes Go.WideShapes Go.ChangeAt Go.RowKit

set_option maxRecDepth 100000 in
theorem lifted (os : Os) (started : os.Started) (H : Type) (enc : TypeId × Value → H) :
    ReturnsInHanded {} Try.checked os 8 .any (Rows.partitionPartsSpec.pre6 enc Try.prog Try.f8 Rows.partitionPartsRow.domain false) (Rows.partitionPartsSpec.post enc Try.prog Try.f8 false true false false) := by
  refine returnsInHanded_of_change (C := Try.checked) ownNone started (by kernel_rfl) Try.func8
    (ChangeSpec.witness6 (enc := enc) (C := Try.checked) false ⟨#[], #[.slice none 0 0, .int .u8 0], []⟩ 8 (by kernel_rfl) (by kernel_rfl) (by kernel_rfl) (by kernel_rfl)) ?_
  intro W base args ds gs before hval0 hW hcnd _
  have hval : ∀ (j : Nat) t v, Try.f8.params[j]? = some t → args[j]? = some v → Value.okWide Try.prog W .any base t v := hval0
  have hW' := hW
  obtain ⟨p, q, hA0, hV, rfl, hfz, hnd⟩ := hW
  have hA : DataW.TrodAll enc Try.prog W 0 (fun _ => true) true Try.f8.params.toList args.toList ds p := hA0
  rw [Try.params8] at hA hval
  obtain ⟨v0, v1, d0, d1, p0, p1, rfl, rfl, rfl, h0, h1⟩ := trodAll_two hA
  obtain ⟨rfl, rfl⟩ := trodVars_none hV
  clear hA0 hval0
  simp only [List.append_nil] at hW'
  have hlt : ∀ x ∈ p0 ++ p1, x.block < W.heap.size := fun x hx => by simpa using hW'.lt x (by simpa using hx)
  have k0 := h0
  obtain ⟨a0, len0, cap0, rfl⟩ := okWide_slice Try.underlying42 (hval 0 42 v0 rfl rfl)
  obtain ⟨f0, g0⟩ := h0
  obtain ⟨A0, xs0, c0, e0, hT0, hl0, hm0⟩ := open_p g0
  simp [Value.cells] at e0
  obtain ⟨rfl, rfl, rfl⟩ := e0
  have k1 := h1
  obtain ⟨m1, rfl⟩ := okWide_int Try.underlying5 (hval 1 5 v1 rfl rfl)
  obtain ⟨f1, g1⟩ := h1
  obtain ⟨n1, e1, _, hw1⟩ := DataW.trod_int Try.underlying5 g1
  simp [Value.cells] at e1
  subst e1
  refine (lawParts xs0 a0 cap0 m1 W hl0 hm0 hT0 hw1).mono fun e W' ⟨he, hg⟩ => ?_
  subst he
  exact ⟨_, rfl, _, _, _, [], p0 ++ p1, [], hW', trodAll_cons_mk (shut_bool Try.underlying4 _) trodAll_mk0, trodAll_mk2 (Below.trod laidOut (by kernel_rfl) (of_decide_eq_true (by kernel_rfl)) k0 hg (fun x hx => hlt x (List.mem_append_left _ hx))) (Below.trod laidOut (by kernel_rfl) (of_decide_eq_true (by kernel_rfl)) k1 hg (fun x hx => hlt x (List.mem_append_right _ hx))), rfl, hg.frame _, fun h => by cases h⟩

theorem over : Rows.partitionPartsRow.holds Try.pinned (OpenSpec.ofChange Rows.partitionPartsSpec) :=
  OpenClaim.holds_of_wide 8 Try.f8 rfl rfl rfl rfl rfl rfl rfl ⟨rfl, rfl, rfl, rfl, rfl⟩ rfl rfl rfl rfl rfl (by kernel_rfl) Try.func8 (by kernel_rfl)
    (of_decide_eq_true (by kernel_rfl)) (by unfold Func.isWrapper; first | (rw [if_pos (by decide +kernel)]; kernel_rfl) | (rw [if_neg (by decide +kernel)]; exact ⟨rfl, rfl⟩))
    (fun os started H enc _ => lifted os started H enc)

theorem proved : Rows.PartitionPartsSaid := over

end Go.Proofs.Ytdflgcfjfgojkaa.partitionParts
