/-
  Types: Is.
-/
import Derived.Test.YtgpcaofikmdpjaaTPc
import Derived.Test.YtgpcaofikmdpjaaEqI
import Derived.Deep.RegionHeld3
namespace Go.Proofs.Ytgpcaofikmdpjaa
open Go.RowKit

set_option maxRecDepth 100000 in
set_option maxHeartbeats 4000000 in
theorem lawIs (haw : AwC) (hp : TC) (t : Typ) (An : Option Addr) (cn : Nat) (Ae : Option Addr) (ce : Nat) (a : Int) (b : Int) (w : World) (ha : I64 a) (hb : I64 b) (hm : BigT t) (hcap : CapT t cn ce) (hT : TyC w An Ae t) :
    Calls Try.prog 4 #[tyval An t.nodes.length cn Ae t.edges.length ce, .int .i64 a, .int .i64 b] w fun e w' => e = .returned (.bool true) ∧ Below w.heap.size w w' := by
  have HT := Lib.hid hT
  have HAW := Lib.hid haw
  have HFE := Lib.hid (fun u hu => few_any t An cn Ae ce u hm hu)
  have HP := Lib.hid hp
  have HCP := Lib.hid hcap
  have Ha := Lib.hid ha
  have Hb := Lib.hid hb
  clear ha hb
  clear hT haw hm hp hcap
  go_enter Try.func4, Try.ntmps4
  go_wp2_with fail
  refine (HAW.out _).mono ?_
  rintro e w1 ⟨rfl, hb1⟩
  have hb1' := below_one' hb1
  obtain ⟨c0, c1⟩ := box_cell hb1'
  have HB1 := Lib.hid hb1'
  have hz1 : w.heap.size + 1 ≤ w1.heap.size := by have := hb1'.size; simpa using this
  clear hb1 hb1'
  go_wp2_with fail
  refine (HFE.out _ (HT.out.up (box_below HB1.out))).mono ?_
  rintro e w2 ⟨⟨b, rfl, hb⟩, hb2⟩
  have hb2' := HB1.out.trans (hb2.mono hz1)
  have hz2 : w.heap.size + 1 ≤ w2.heap.size := Nat.le_trans hz1 hb2.size
  obtain ⟨d0, d1⟩ := box_cell hb2'
  have HB2 := Lib.hid hb2'
  have HFW := Lib.hid hb
  clear hb2 hb2' hb c0 c1
  cases b
  case false =>
    go_wp2_with fail
    refine (HAW.out _).mono ?_
    rintro e w3 ⟨rfl, hb3⟩
    have HB3 := Lib.hid (box_below (HB2.out.trans (hb3.mono hz2)))
    clear hb3
    go_wp2_with fail
    go_ret
    exact ⟨rfl, HB3.out⟩
  case true =>
    have HF := Lib.hid (HFW.out rfl)
    clear HFW
    have HS : Hid (∀ u, Below (w.heap.size + 1) (w.alloc (.cells #[.slice An t.nodes.length cn, .slice Ae t.edges.length ce] 25 (0, 0))) u → u.cell? ⟨w.heap.size, 0, none⟩ = some (.slice An t.nodes.length cn) ∧ u.cell? ⟨w.heap.size, 1, none⟩ = some (.slice Ae t.edges.length ce) ∧ Below (w.heap.size + 1) (w.alloc (.cells #[.slice An t.nodes.length cn, .slice Ae t.edges.length ce] 25 (0, 0))) u) := Lib.hid fun u hu => ⟨(box_cell hu).1, (box_cell hu).2, hu⟩
    have HC1 : Hid (∀ u, Below (w.heap.size + 1) (w.alloc (.cells #[.slice An t.nodes.length cn, .slice Ae t.edges.length ce] 25 (0, 0))) u → Calls Try.prog 15 #[tyval An t.nodes.length cn Ae t.edges.length ce, .int .i64 a, .int .i64 b] u fun e w' => e = .returned (.bool (isS t a b)) ∧ w'.cell? ⟨w.heap.size, 0, none⟩ = some (.slice An t.nodes.length cn) ∧ w'.cell? ⟨w.heap.size, 1, none⟩ = some (.slice Ae t.edges.length ce) ∧ Below (w.heap.size + 1) (w.alloc (.cells #[.slice An t.nodes.length cn, .slice Ae t.edges.length ce] 25 (0, 0))) w') := Lib.hid fun u hu => by
      refine (HP.out.isx t An cn Ae ce a b u HF.out HCP.out Ha.out Hb.out (HT.out.up (box_below hu))).mono ?_
      rintro e w' ⟨rfl, hb⟩
      exact ⟨rfl, HS.out w' (hu.trans (hb.mono (by have := hu.size; simpa using this)))⟩
    have HC2 : Hid (∀ u, Below (w.heap.size + 1) (w.alloc (.cells #[.slice An t.nodes.length cn, .slice Ae t.edges.length ce] 25 (0, 0))) u → Calls Try.prog 16 #[tyval An t.nodes.length cn Ae t.edges.length ce, .int .i64 a, .int .i64 b] u fun e w' => e = .returned (.bool (isS t a b)) ∧ w'.cell? ⟨w.heap.size, 0, none⟩ = some (.slice An t.nodes.length cn) ∧ w'.cell? ⟨w.heap.size, 1, none⟩ = some (.slice Ae t.edges.length ce) ∧ Below (w.heap.size + 1) (w.alloc (.cells #[.slice An t.nodes.length cn, .slice Ae t.edges.length ce] 25 (0, 0))) w') := Lib.hid fun u hu => by
      refine (isRf HP.out.name t An cn Ae ce a b u HF.out HCP.out Ha.out Hb.out (HT.out.up (box_below hu))).mono ?_
      rintro e w' ⟨rfl, hb⟩
      exact ⟨rfl, HS.out w' (hu.trans (hb.mono (by have := hu.size; simpa using this)))⟩
    have HS1 := Lib.hid (HS.out _ (Below.drew HB2.out))
    generalize isS t a b = z at HC1 HC2
    clear d0 d1 HP HF
    go_wp2_with fail
    go_region_held3 (fun u => u.cell? ⟨w.heap.size, 0, none⟩ = some (.slice An t.nodes.length cn) ∧ u.cell? ⟨w.heap.size, 1, none⟩ = some (.slice Ae t.edges.length ce) ∧ Below (w.heap.size + 1) (w.alloc (.cells #[.slice An t.nodes.length cn, .slice Ae t.edges.length ce] 25 (0, 0))) u)
      (first | assumption | exact HS1.out)
      ((first
        | (with_reducible refine (HC1.out _ (by first | assumption | exact HS1.out.2.2)).mono ?_; rintro e w3 ⟨rfl, hs3⟩; have hq3 := hs3.2.2)
        | (with_reducible refine (HC2.out _ (by first | assumption | exact HS1.out.2.2)).mono ?_; rintro e w4 ⟨rfl, hs4⟩; have hq4 := hs4.2.2)))
    all_goals
      have HB5 := Lib.hid (box_below (by assumption))
      go_wp2_with fail
      go_ret
      exact ⟨rfl, HB5.out⟩

end Go.Proofs.Ytgpcaofikmdpjaa
