/-
  Types: Fits.
-/
import Derived.Test.YtgpcaofikmdpjaaTPc
import Derived.Test.YtgpcaofikmdpjaaEqI
import Derived.Deep.RegionHeld3
namespace Go.Proofs.Ytgpcaofikmdpjaa
open Go.RowKit

abbrev FitB (w : World) (An Ae : Option Addr) (t : Typ) (cn ce : Nat) (d a b : Int) (u : World) : Prop :=
  u.cell? ⟨w.heap.size, 0, none⟩ = some (.slice An t.nodes.length cn) ∧ u.cell? ⟨w.heap.size, 1, none⟩ = some (.slice Ae t.edges.length ce) ∧ u.cell? ⟨w.heap.size + 1, 0, none⟩ = some (.int .i64 d) ∧ u.cell? ⟨w.heap.size + 1, 1, none⟩ = some (.int .i64 a) ∧ u.cell? ⟨w.heap.size + 1, 2, none⟩ = some (.int .i64 b) ∧ Below (w.heap.size + 1 + 1) ((w.alloc (.cells #[.slice An t.nodes.length cn, .slice Ae t.edges.length ce] 25 (0, 0))).alloc (.cells #[.int .i64 d, .int .i64 a, .int .i64 b] 42 (0, 0))) u
theorem fitB_of {w : World} {An Ae : Option Addr} {t : Typ} {cn ce : Nat} {d a b : Int} {u : World} (h : Below (w.heap.size + 1 + 1) ((w.alloc (.cells #[.slice An t.nodes.length cn, .slice Ae t.edges.length ce] 25 (0, 0))).alloc (.cells #[.int .i64 d, .int .i64 a, .int .i64 b] 42 (0, 0))) u) : FitB w An Ae t cn ce d a b u := by
  have f1 : ∀ j, u.cell? ⟨w.heap.size, j, none⟩ = (#[Value.slice An t.nodes.length cn, .slice Ae t.edges.length ce])[j]? := fun j => (h.cell (p := ⟨w.heap.size, j, none⟩) (by show w.heap.size < _; omega)).trans (cell_of_row _ _ _ _ _ _ (heap_two _ _ _))
  have f2 : ∀ j, u.cell? ⟨w.heap.size + 1, j, none⟩ = (#[Value.int .i64 d, .int .i64 a, .int .i64 b])[j]? := fun j => (h.cell (p := ⟨w.heap.size + 1, j, none⟩) (by show w.heap.size + 1 < _; omega)).trans (cell_of_row _ _ _ _ _ _ (heap_two' _ _ _))
  exact ⟨f1 0, f1 1, f2 0, f2 1, f2 2, h⟩

set_option maxRecDepth 100000 in
set_option maxHeartbeats 4000000 in
theorem lawFits (haw : AwC) (hp : TC) (t : Typ) (An : Option Addr) (cn : Nat) (Ae : Option Addr) (ce : Nat) (d : Int) (a : Int) (b : Int) (w : World) (hd : I64 d) (ha : I64 a) (hb : I64 b) (hm : BigT t) (hcap : CapT t cn ce) (hT : TyC w An Ae t) :
    Calls Try.prog 6 #[tyval An t.nodes.length cn Ae t.edges.length ce, .agg #[.int .i64 d, .int .i64 a, .int .i64 b]] w fun e w' => e = .returned (.bool true) ∧ Below w.heap.size w w' := by
  have HT := Lib.hid hT
  have HAW := Lib.hid haw
  have HFE := Lib.hid (fun u hu => few_any t An cn Ae ce u hm hu)
  have HP := Lib.hid hp
  have HCP := Lib.hid hcap
  have Hd := Lib.hid hd
  have Ha := Lib.hid ha
  have Hb := Lib.hid hb
  clear hd ha hb
  clear hT haw hm hp hcap
  have HTW : Hid (∀ u, Below (w.heap.size + 1 + 1) ((w.alloc (.cells #[.slice An t.nodes.length cn, .slice Ae t.edges.length ce] 25 (0, 0))).alloc (.cells #[.int .i64 d, .int .i64 a, .int .i64 b] 42 (0, 0))) u → TyC u An Ae t ∧ Below w.heap.size w u) := Lib.hid fun u hu => by
    have hb := (((Below.refl w.heap.size w).alloc (Nat.le_refl _) (.cells #[.slice An t.nodes.length cn, .slice Ae t.edges.length ce] 25 (0, 0))).alloc (by simp) (.cells #[.int .i64 d, .int .i64 a, .int .i64 b] 42 (0, 0))).trans (hu.mono (by omega))
    exact ⟨HT.out.up hb, hb⟩
  have HS : Hid (∀ u, Below (w.heap.size + 1 + 1) ((w.alloc (.cells #[.slice An t.nodes.length cn, .slice Ae t.edges.length ce] 25 (0, 0))).alloc (.cells #[.int .i64 d, .int .i64 a, .int .i64 b] 42 (0, 0))) u → FitB w An Ae t cn ce d a b u) := Lib.hid fun u hu => fitB_of hu
  have HSZ : Hid (∀ u, Below (w.heap.size + 1 + 1) ((w.alloc (.cells #[.slice An t.nodes.length cn, .slice Ae t.edges.length ce] 25 (0, 0))).alloc (.cells #[.int .i64 d, .int .i64 a, .int .i64 b] 42 (0, 0))) u → w.heap.size + 1 + 1 ≤ u.heap.size) := Lib.hid fun u hu => by have := hu.size; simpa using this
  go_enter Try.func6, Try.ntmps6
  go_wp2_with fail
  refine (HAW.out _).mono ?_
  rintro e w1 ⟨rfl, hb1⟩
  have hb1' := below_two hb1
  have HB1 := Lib.hid hb1'
  obtain ⟨c0, c1, _⟩ := HS.out _ hb1'
  clear hb1 hb1'
  go_wp2_with fail
  refine (HFE.out _ (HTW.out _ HB1.out).1).mono ?_
  rintro e w2 ⟨⟨b', rfl, hb⟩, hb2⟩
  have HB2 := Lib.hid (HB1.out.trans (hb2.mono (HSZ.out _ HB1.out)))
  have HFW := Lib.hid hb
  clear hb2 hb c0 c1
  cases b'
  case false =>
    go_wp2_with fail
    refine (HAW.out _).mono ?_
    rintro e w3 ⟨rfl, hb3⟩
    have HB3 := Lib.hid (HTW.out _ (HB2.out.trans (hb3.mono (HSZ.out _ HB2.out)))).2
    clear hb3
    go_wp2_with fail
    go_ret
    exact ⟨rfl, HB3.out⟩
  case true =>
    have HF := Lib.hid (HFW.out rfl)
    clear HFW
    have HC1 : Hid (∀ u, Below (w.heap.size + 1 + 1) ((w.alloc (.cells #[.slice An t.nodes.length cn, .slice Ae t.edges.length ce] 25 (0, 0))).alloc (.cells #[.int .i64 d, .int .i64 a, .int .i64 b] 42 (0, 0))) u → Calls Try.prog 25 #[tyval An t.nodes.length cn Ae t.edges.length ce, .int .i64 d, .int .i64 a, .int .i64 b] u fun e w' => e = .returned (.bool (fitsS t d a b)) ∧ FitB w An Ae t cn ce d a b w') := Lib.hid fun u hu => by
      refine (HP.out.fit t An cn Ae ce d a b u HF.out HCP.out Hd.out Ha.out Hb.out (HTW.out u hu).1).mono ?_
      rintro e w' ⟨rfl, hb⟩
      exact ⟨rfl, HS.out w' (hu.trans (hb.mono (HSZ.out u hu)))⟩
    have HC2 : Hid (∀ u, Below (w.heap.size + 1 + 1) ((w.alloc (.cells #[.slice An t.nodes.length cn, .slice Ae t.edges.length ce] 25 (0, 0))).alloc (.cells #[.int .i64 d, .int .i64 a, .int .i64 b] 42 (0, 0))) u → Calls Try.prog 26 #[tyval An t.nodes.length cn Ae t.edges.length ce, .int .i64 d, .int .i64 a, .int .i64 b] u fun e w' => e = .returned (.bool (fitsS t d a b)) ∧ FitB w An Ae t cn ce d a b w') := Lib.hid fun u hu => by
      refine (fitRf HP.out.name t An cn Ae ce d a b u HF.out HCP.out Hd.out Ha.out Hb.out (HTW.out u hu).1).mono ?_
      rintro e w' ⟨rfl, hb⟩
      exact ⟨rfl, HS.out w' (hu.trans (hb.mono (HSZ.out u hu)))⟩
    have HS1 := Lib.hid (HS.out _ (Below.drew HB2.out))
    generalize fitsS t d a b = z at HC1 HC2
    clear HP HF
    go_wp2_with fail
    go_region_held3 (fun u => u.cell? ⟨w.heap.size, 0, none⟩ = some (.slice An t.nodes.length cn) ∧ u.cell? ⟨w.heap.size, 1, none⟩ = some (.slice Ae t.edges.length ce) ∧ u.cell? ⟨w.heap.size + 1, 0, none⟩ = some (.int .i64 d) ∧ u.cell? ⟨w.heap.size + 1, 1, none⟩ = some (.int .i64 a) ∧ u.cell? ⟨w.heap.size + 1, 2, none⟩ = some (.int .i64 b) ∧ Below (w.heap.size + 1 + 1) ((w.alloc (.cells #[.slice An t.nodes.length cn, .slice Ae t.edges.length ce] 25 (0, 0))).alloc (.cells #[.int .i64 d, .int .i64 a, .int .i64 b] 42 (0, 0))) u)
      (first | assumption | exact HS1.out)
      ((first
        | (with_reducible refine (HC1.out _ (by first | assumption | exact HS1.out.2.2.2.2.2)).mono ?_; rintro e w3 ⟨rfl, hs3⟩; have hq3 := hs3.2.2.2.2.2)
        | (with_reducible refine (HC2.out _ (by first | assumption | exact HS1.out.2.2.2.2.2)).mono ?_; rintro e w4 ⟨rfl, hs4⟩; have hq4 := hs4.2.2.2.2.2)))
    all_goals
      have HB5 := Lib.hid (HTW.out _ (by assumption)).2
      go_wp2_with fail
      go_ret
      exact ⟨rfl, HB5.out⟩

end Go.Proofs.Ytgpcaofikmdpjaa
