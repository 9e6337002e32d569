/-
  Types: Meet and Join.
-/
import Derived.Test.YtgpcaofikmdpjaaTPc
import Derived.Test.YtgpcaofikmdpjaaEqI
namespace Go.Proofs.Ytgpcaofikmdpjaa
open Go.RowKit

set_option maxRecDepth 100000 in
set_option maxHeartbeats 4000000 in
theorem lawMeet (haw : AwC) (hp : TC) (t : Typ) (An : Option Addr) (cn : Nat) (Ae : Option Addr) (ce : Nat) (a : Int) (b : Int) (w : World) (ha : I64 a) (hb : I64 b) (hm : BigT t) (hcap : CapT t cn ce) (hT : TyC w An Ae t) :
    Calls Try.prog 7 #[tyval An t.nodes.length cn Ae t.edges.length ce, .int .i64 a, .int .i64 b] w fun e w' => e = .returned (.bool true) ∧ Below w.heap.size w w' := by
  have HT := Lib.hid hT
  have HAW := Lib.hid haw
  have HFE := Lib.hid (fun u hu => few_any t An cn Ae ce u hm hu)
  have HP := Lib.hid hp
  have HCP := Lib.hid hcap
  have Ha := Lib.hid ha
  have Hb := Lib.hid hb
  clear ha hb
  clear hT haw hm hp hcap
  go_enter Try.func7, Try.ntmps7
  go_wp2_with fail
  refine (HAW.out _).mono ?_
  rintro e w1 ⟨rfl, hb1⟩
  have hb1' := below_one' hb1
  obtain ⟨c0, c1⟩ := box_cell hb1'
  have HB1 := Lib.hid hb1'
  have hz1 : w.heap.size + 1 ≤ w1.heap.size := by have := hb1'.size; simpa using this
  clear hb1 hb1'
  go_wp2_with fail
  refine (HFE.out _ (HT.out.up (box_below HB1.out))).mono ?_
  rintro e w2 ⟨⟨b, rfl, hb⟩, hb2⟩
  have hb2' := HB1.out.trans (hb2.mono hz1)
  have hz2 : w.heap.size + 1 ≤ w2.heap.size := Nat.le_trans hz1 hb2.size
  obtain ⟨d0, d1⟩ := box_cell hb2'
  have HB2 := Lib.hid hb2'
  have HFW := Lib.hid hb
  clear hb2 hb2' hb c0 c1
  cases b
  case false =>
    go_wp2_with fail
    refine (HAW.out _).mono ?_
    rintro e w3 ⟨rfl, hb3⟩
    have HB3 := Lib.hid (box_below (HB2.out.trans (hb3.mono hz2)))
    clear hb3
    go_wp2_with fail
    go_ret
    exact ⟨rfl, HB3.out⟩
  case true =>
    have HF := Lib.hid (HFW.out rfl)
    clear HFW
    go_wp2_with fail
    refine (HP.out.meet t An cn Ae ce a b _ HF.out HCP.out Ha.out Hb.out (HT.out.up (box_below HB2.out))).mono ?_
    rintro e w3 ⟨rfl, hb3⟩
    have hb3' := HB2.out.trans (hb3.mono hz2)
    have hz3 : w.heap.size + 1 ≤ w3.heap.size := Nat.le_trans hz2 hb3.size
    clear d0 d1
    obtain ⟨d0, d1⟩ := box_cell hb3'
    have HB3 := Lib.hid hb3'
    clear hb3 hb3'
    go_wp2_with fail
    refine (meetRf HP.out.name t An cn Ae ce a b _ HF.out HCP.out Ha.out Hb.out (HT.out.up (box_below HB3.out))).mono ?_
    rintro e w4 ⟨rfl, hb4⟩
    have hb4' := HB3.out.trans (hb4.mono hz3)
    have hz4 : w.heap.size + 1 ≤ w4.heap.size := Nat.le_trans hz3 hb4.size
    clear d0 d1
    obtain ⟨d0, d1⟩ := box_cell hb4'
    have HB4 := Lib.hid hb4'
    clear hb4 hb4'
    go_wp2_with fail
    refine (HP.out.join t An cn Ae ce a b _ HF.out HCP.out Ha.out Hb.out (HT.out.up (box_below HB4.out))).mono ?_
    rintro e w5 ⟨rfl, hb5⟩
    have hb5' := HB4.out.trans (hb5.mono hz4)
    have hz5 : w.heap.size + 1 ≤ w5.heap.size := Nat.le_trans hz4 hb5.size
    clear d0 d1
    obtain ⟨d0, d1⟩ := box_cell hb5'
    have HB5 := Lib.hid hb5'
    clear hb5 hb5'
    go_wp2_with fail
    refine (joinRf HP.out.name t An cn Ae ce a b _ HF.out HCP.out Ha.out Hb.out (HT.out.up (box_below HB5.out))).mono ?_
    rintro e w6 ⟨rfl, hb6⟩
    have hb6' := HB5.out.trans (hb6.mono hz5)
    have hz6 : w.heap.size + 1 ≤ w6.heap.size := Nat.le_trans hz5 hb6.size
    clear d0 d1
    obtain ⟨d0, d1⟩ := box_cell hb6'
    have HB6 := Lib.hid hb6'
    clear hb6 hb6'
    go_wp2_with fail
    go_ret
    exact ⟨rfl, box_below HB6.out⟩

end Go.Proofs.Ytgpcaofikmdpjaa
