/-
  Types: Ancestors, Below and Attrs.
-/
import Derived.Test.YtgpcaofikmdpjaaTPc
import Derived.Test.YtgpcaofikmdpjaaEqI
namespace Go.Proofs.Ytgpcaofikmdpjaa
open Go.RowKit

theorem ancR_len (t : Typ) (a : Int) : (ancR t a).length ≤ 1000 := by
  unfold ancR
  split
  · rename_i h
    have hG := giv_of h
    have := ancL_len t a (a.toNat + 1)
    have := hG.val.few
    have := hG.a1
    omega
  · simp
theorem belR_len (t : Typ) (a : Int) : (belR t a).length ≤ 1000 := by
  unfold belR
  split
  · rename_i h
    have := belL_len t a t.nodes.length
    have := (giv_of h).val.few
    omega
  · simp
theorem attR_small {t : Typ} (hf : FewT t) (a : Int) : ∀ y ∈ attR t a, AttSm y := by
  unfold attR
  split
  · exact attL_small hf a
  · intro y hy; simp at hy
theorem attR_len {t : Typ} (hf : FewT t) (a : Int) : (attR t a).length ≤ 1000 := by
  unfold attR
  split
  · rename_i h
    have hG := giv_of h
    have := attL_len (a := a) (fun x hx => (hf.node x hx).2.1) (by have := hG.val.few; have := hG.a1; omega)
    omega
  · simp
theorem equalYes {L : List Int} (hl : L.length ≤ 1000) {A A' : Option Addr} {c c' : Nat} {w : World} (h1 : Ints w w.heap.size A L) (h2 : Ints w w.heap.size A' L) :
    Calls Try.prog 23 #[.slice A L.length c, .slice A' L.length c'] w fun e w' => e = .returned (.bool true) ∧ Below w.heap.size w w' := by
  refine (equal_any L L A A' _ _ c c' w (by unfold maxLen; omega) h1 h2).mono ?_
  rintro e w' ⟨rfl, hb⟩
  exact ⟨by rw [decide_eq_true rfl], hb⟩
theorem sameYes {L : List Att} (hl : L.length ≤ 1000) (hs : ∀ y ∈ L, AttSm y) {A A' : Option Addr} {c c' : Nat} {w : World} (h1 : Atts w w.heap.size A L) (h2 : Atts w w.heap.size A' L) :
    Calls Try.prog 24 #[.slice A L.length c, .slice A' L.length c'] w fun e w' => e = .returned (.bool true) ∧ Below w.heap.size w w' := by
  refine (sameAttrs_any L L A A' c c' w hl hs h1 h2).mono ?_
  rintro e w' ⟨⟨b, rfl, hb⟩, hB⟩
  rw [hb.2 rfl]
  exact ⟨rfl, hB⟩

set_option maxRecDepth 100000 in
set_option maxHeartbeats 4000000 in
theorem lawLists (haw : AwC) (hp : TC) (t : Typ) (An : Option Addr) (cn : Nat) (Ae : Option Addr) (ce : Nat) (a : Int) (w : World) (ha : I64 a) (hm : BigT t) (hcap : CapT t cn ce) (hT : TyC w An Ae t) :
    Calls Try.prog 5 #[tyval An t.nodes.length cn Ae t.edges.length ce, .int .i64 a] w fun e w' => e = .returned (.bool true) ∧ Below w.heap.size w w' := by
  have HT := Lib.hid hT
  have HAW := Lib.hid haw
  have HFE := Lib.hid (fun u hu => few_any t An cn Ae ce u hm hu)
  have HP := Lib.hid hp
  have HCP := Lib.hid hcap
  have Ha := Lib.hid ha
  clear ha
  clear hT haw hm hp hcap
  go_enter Try.func5, Try.ntmps5
  go_wp2_with fail
  refine (HAW.out _).mono ?_
  rintro e w1 ⟨rfl, hb1⟩
  have hb1' := below_one' hb1
  obtain ⟨c0, c1⟩ := box_cell hb1'
  have HB1 := Lib.hid hb1'
  have hz1 : w.heap.size + 1 ≤ w1.heap.size := by have := hb1'.size; simpa using this
  clear hb1 hb1'
  go_wp2_with fail
  refine (HFE.out _ (HT.out.up (box_below HB1.out))).mono ?_
  rintro e w2 ⟨⟨b, rfl, hb⟩, hb2⟩
  have hb2' := HB1.out.trans (hb2.mono hz1)
  have hz2 : w.heap.size + 1 ≤ w2.heap.size := Nat.le_trans hz1 hb2.size
  obtain ⟨d0, d1⟩ := box_cell hb2'
  have HB2 := Lib.hid hb2'
  have HFW := Lib.hid hb
  clear hb2 hb2' hb c0 c1
  cases b
  case false =>
    go_wp2_with fail
    refine (HAW.out _).mono ?_
    rintro e w3 ⟨rfl, hb3⟩
    have HB3 := Lib.hid (box_below (HB2.out.trans (hb3.mono hz2)))
    clear hb3
    go_wp2_with fail
    go_ret
    exact ⟨rfl, HB3.out⟩
  case true =>
    have HF := Lib.hid (HFW.out rfl)
    clear HFW
    go_wp2_with fail
    refine (HP.out.anc t An cn Ae ce a _ HF.out HCP.out Ha.out (HT.out.up (box_below HB2.out))).mono ?_
    rintro e w3 ⟨⟨A3, c3, rfl, hr3⟩, hb3⟩
    have hb3' := HB2.out.trans (hb3.mono hz2)
    have hz3 : w.heap.size + 1 ≤ w3.heap.size := Nat.le_trans hz2 hb3.size
    clear d0 d1
    obtain ⟨d0, d1⟩ := box_cell hb3'
    have HB3 := Lib.hid hb3'
    have HI3_3 := Lib.hid hr3
    clear hb3 hb3'
    go_wp2_with fail
    refine (ancRf HP.out.name t An cn Ae ce a _ HF.out HCP.out Ha.out (HT.out.up (box_below HB3.out))).mono ?_
    rintro e w4 ⟨⟨A4, c4, rfl, hr4⟩, hb4⟩
    have hb4' := HB3.out.trans (hb4.mono hz3)
    have hz4 : w.heap.size + 1 ≤ w4.heap.size := Nat.le_trans hz3 hb4.size
    clear d0 d1
    obtain ⟨d0, d1⟩ := box_cell hb4'
    have HB4 := Lib.hid hb4'
    have HI3_4 := Lib.hid (HI3_3.out.up hb4)
    have HI4_4 := Lib.hid hr4
    clear hb4 hb4'
    go_wp2_with fail
    refine (HP.out.bel t An cn Ae ce a _ HF.out HCP.out Ha.out (HT.out.up (box_below HB4.out))).mono ?_
    rintro e w5 ⟨⟨A5, c5, rfl, hr5⟩, hb5⟩
    have hb5' := HB4.out.trans (hb5.mono hz4)
    have hz5 : w.heap.size + 1 ≤ w5.heap.size := Nat.le_trans hz4 hb5.size
    clear d0 d1
    obtain ⟨d0, d1⟩ := box_cell hb5'
    have HB5 := Lib.hid hb5'
    have HI3_5 := Lib.hid (HI3_4.out.up hb5)
    have HI4_5 := Lib.hid (HI4_4.out.up hb5)
    have HI5_5 := Lib.hid hr5
    clear hb5 hb5'
    go_wp2_with fail
    refine (belRf HP.out.name t An cn Ae ce a _ HF.out HCP.out Ha.out (HT.out.up (box_below HB5.out))).mono ?_
    rintro e w6 ⟨⟨A6, c6, rfl, hr6⟩, hb6⟩
    have hb6' := HB5.out.trans (hb6.mono hz5)
    have hz6 : w.heap.size + 1 ≤ w6.heap.size := Nat.le_trans hz5 hb6.size
    clear d0 d1
    obtain ⟨d0, d1⟩ := box_cell hb6'
    have HB6 := Lib.hid hb6'
    have HI3_6 := Lib.hid (HI3_5.out.up hb6)
    have HI4_6 := Lib.hid (HI4_5.out.up hb6)
    have HI5_6 := Lib.hid (HI5_5.out.up hb6)
    have HI6_6 := Lib.hid hr6
    clear hb6 hb6'
    go_wp2_with fail
    refine (HP.out.att t An cn Ae ce a _ HF.out HCP.out Ha.out (HT.out.up (box_below HB6.out))).mono ?_
    rintro e w7 ⟨⟨A7, c7, rfl, hr7⟩, hb7⟩
    have hb7' := HB6.out.trans (hb7.mono hz6)
    have hz7 : w.heap.size + 1 ≤ w7.heap.size := Nat.le_trans hz6 hb7.size
    clear d0 d1
    obtain ⟨d0, d1⟩ := box_cell hb7'
    have HB7 := Lib.hid hb7'
    have HI3_7 := Lib.hid (HI3_6.out.up hb7)
    have HI4_7 := Lib.hid (HI4_6.out.up hb7)
    have HI5_7 := Lib.hid (HI5_6.out.up hb7)
    have HI6_7 := Lib.hid (HI6_6.out.up hb7)
    have HI7_7 := Lib.hid hr7
    clear hb7 hb7'
    go_wp2_with fail
    refine (attRf HP.out.name t An cn Ae ce a _ HF.out HCP.out Ha.out (HT.out.up (box_below HB7.out))).mono ?_
    rintro e w8 ⟨⟨A8, c8, rfl, hr8⟩, hb8⟩
    have hb8' := HB7.out.trans (hb8.mono hz7)
    have hz8 : w.heap.size + 1 ≤ w8.heap.size := Nat.le_trans hz7 hb8.size
    clear d0 d1
    obtain ⟨d0, d1⟩ := box_cell hb8'
    have HB8 := Lib.hid hb8'
    have HI3_8 := Lib.hid (HI3_7.out.up hb8)
    have HI4_8 := Lib.hid (HI4_7.out.up hb8)
    have HI5_8 := Lib.hid (HI5_7.out.up hb8)
    have HI6_8 := Lib.hid (HI6_7.out.up hb8)
    have HI7_8 := Lib.hid (HI7_7.out.up hb8)
    have HI8_8 := Lib.hid hr8
    clear hb8 hb8'
    have HL1 := Lib.hid (ancR_len t a)
    have HL2 := Lib.hid (belR_len t a)
    have HL3 := Lib.hid (attR_len HF.out a)
    have HL4 := Lib.hid (attR_small HF.out a)
    generalize ancR t a = L1 at *
    generalize belR t a = L2 at *
    generalize attR t a = L3 at *
    clear d0 d1 HP HF
    go_wp2_with fail
    refine (equalYes HL1.out HI3_8.out HI4_8.out).mono ?_
    rintro e w9 ⟨rfl, hb9⟩
    have HB9 := Lib.hid (HB8.out.trans (hb9.mono hz8))
    have hz9 : w.heap.size + 1 ≤ w9.heap.size := Nat.le_trans hz8 hb9.size
    have HI5_9 := Lib.hid (HI5_8.out.up hb9)
    have HI6_9 := Lib.hid (HI6_8.out.up hb9)
    have HI7_9 := Lib.hid (HI7_8.out.up hb9)
    have HI8_9 := Lib.hid (HI8_8.out.up hb9)
    clear hb9
    go_wp2_with fail
    refine (equalYes HL2.out HI5_9.out HI6_9.out).mono ?_
    rintro e w10 ⟨rfl, hb10⟩
    have HB10 := Lib.hid (HB9.out.trans (hb10.mono hz9))
    have hz10 : w.heap.size + 1 ≤ w10.heap.size := Nat.le_trans hz9 hb10.size
    have HI7_10 := Lib.hid (HI7_9.out.up hb10)
    have HI8_10 := Lib.hid (HI8_9.out.up hb10)
    clear hb10
    go_wp2_with fail
    refine (sameYes HL3.out HL4.out HI7_10.out HI8_10.out).mono ?_
    rintro e w11 ⟨rfl, hb11⟩
    have HB11 := Lib.hid (box_below (HB10.out.trans (hb11.mono hz10)))
    clear hb11
    go_wp2_with fail
    go_ret
    exact ⟨rfl, HB11.out⟩

end Go.Proofs.Ytgpcaofikmdpjaa
