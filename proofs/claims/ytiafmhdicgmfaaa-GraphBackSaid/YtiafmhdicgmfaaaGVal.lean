/-
  Graphs: Valid, of the program and the reference.
-/
import Derived.Test.YtiafmhdicgmfaaaGMem
import Derived.Deep.RegionHeld3
import Derived.Outline
namespace Go.Proofs.Ytiafmhdicgmfaaa
open Go.RowKit

abbrev edv (x : Ed) : Value := .agg #[.int .i64 x.ty, .int .i64 x.fr, .int .i64 x.to]
theorem edB_and (x : Ed) (n : Nat) : edB x n = (idxB x.ty 100 && idxB x.fr n && idxB x.to n) := rfl

set_option maxHeartbeats 1000000 in
theorem isEdge_any (x : Ed) (An : Option Addr) (n cn : Nat) (Ae : Option Addr) (m ce : Nat) (w : World) :
    Calls Try.prog 44 #[gval An n cn Ae m ce, edv x] w fun e w' => e = .returned (.bool (edB x n)) ∧ Below w.heap.size w w' := by
  have HX := Lib.hid (edB_and x n)
  have H1 : Hid (∀ u, Calls Try.prog 43 #[.int .i64 x.ty, .int .i64 100] u fun e w' => e = .returned (.bool (idxB x.ty 100)) ∧ u = w') := Lib.hid fun u => isIndex_any x.ty 100 u
  have H2 := Lib.hid (fun u => isIndex_any x.fr n u)
  have H3 := Lib.hid (fun u => isIndex_any x.to n u)
  have HB : Hid (∀ o o', Below w.heap.size w ((w.alloc o).alloc o')) := Lib.hid fun o o' => ((Below.refl _ _).alloc (Nat.le_refl _) _).alloc (by simp) _
  obtain ⟨ty, fr, to⟩ := x
  dsimp only at H1 H2 H3 HX ⊢
  generalize edB ⟨ty, fr, to⟩ n = z at HX ⊢
  generalize idxB ty 100 = z1 at HX H1
  generalize idxB fr n = z2 at HX H2
  generalize idxB to n = z3 at HX H3
  go_enter Try.func44, Try.ntmps44
  go_wp2_with fail
  refine (H1.out _).mono ?_
  rintro e w' ⟨rfl, rfl⟩
  cases z1
  · go_wp2_with fail
    go_ret
    exact ⟨ret_bool (by rw [HX.out]; rfl), HB.out _ _⟩
  · go_wp2_with fail
    refine (H2.out _).mono ?_
    rintro e w' ⟨rfl, rfl⟩
    cases z2
    · go_wp2_with fail
      go_ret
      exact ⟨ret_bool (by rw [HX.out]; rfl), HB.out _ _⟩
    · go_wp2_with fail
      refine (H3.out _).mono ?_
      rintro e w' ⟨rfl, rfl⟩
      go_wp2_with fail
      go_ret
      exact ⟨ret_bool (by rw [HX.out]; rfl), HB.out _ _⟩

set_option maxHeartbeats 1000000 in
theorem right_any (x : Ed) (n : Nat) (w : World) :
    Calls Try.prog 45 #[edv x, .int .i64 (n : Int)] w fun e w' => e = .returned (.bool (edB x n)) ∧ Below w.heap.size w w' := by
  have HX := Lib.hid (edB_and x n)
  have H1 : Hid (∀ u, Calls Try.prog 42 #[.int .i64 x.ty] u fun e w' => e = .returned (.bool (idxB x.ty 100)) ∧ u = w') := Lib.hid fun u => kind_any x.ty u
  have H2 : Hid (idxB x.fr n = (decide (0 ≤ x.fr) && decide (x.fr < (n : Int)))) := Lib.hid rfl
  have H3 : Hid (idxB x.to n = (decide (0 ≤ x.to) && decide (x.to < (n : Int)))) := Lib.hid rfl
  have HB : Hid (∀ o, Below w.heap.size w (w.alloc o)) := Lib.hid fun o => (Below.refl _ _).alloc (Nat.le_refl _) _
  obtain ⟨ty, fr, to⟩ := x
  dsimp only at H1 H2 H3 HX ⊢
  generalize edB ⟨ty, fr, to⟩ n = z at HX ⊢
  generalize idxB ty 100 = z1 at HX H1
  cases z1
  · go_enter Try.func45, Try.ntmps45
    go_wp2_with fail
    refine (H1.out _).mono ?_
    rintro e w' ⟨rfl, rfl⟩
    go_wp2_with fail
    go_ret
    exact ⟨ret_bool (by rw [HX.out]; rfl), HB.out _⟩
  by_cases h1 : 0 ≤ fr
  case neg =>
    have t1 : decide (0 ≤ fr) = false := decide_eq_false h1
    rw [t1] at H2
    go_enter Try.func45, Try.ntmps45
    go_wp2_with fail
    refine (H1.out _).mono ?_
    rintro e w' ⟨rfl, rfl⟩
    go_wp2_with fail
    go_ret
    exact ⟨ret_bool (by rw [HX.out, H2.out]; rfl), HB.out _⟩
  by_cases h2 : fr < (n : Int)
  case neg =>
    have t1 : decide (0 ≤ fr) = true := decide_eq_true h1
    have t2 : decide (fr < (n : Int)) = false := decide_eq_false h2
    rw [t1, t2] at H2
    go_enter Try.func45, Try.ntmps45
    go_wp2_with fail
    refine (H1.out _).mono ?_
    rintro e w' ⟨rfl, rfl⟩
    go_wp2_with fail
    go_ret
    exact ⟨ret_bool (by rw [HX.out, H2.out]; rfl), HB.out _⟩
  by_cases h3 : 0 ≤ to
  case neg =>
    have t1 : decide (0 ≤ fr) = true := decide_eq_true h1
    have t2 : decide (fr < (n : Int)) = true := decide_eq_true h2
    have t3 : decide (0 ≤ to) = false := decide_eq_false h3
    rw [t1, t2] at H2
    rw [t3] at H3
    go_enter Try.func45, Try.ntmps45
    go_wp2_with fail
    refine (H1.out _).mono ?_
    rintro e w' ⟨rfl, rfl⟩
    go_wp2_with fail
    go_ret
    exact ⟨ret_bool (by rw [HX.out, H2.out, H3.out]; rfl), HB.out _⟩
  have t1 : decide (0 ≤ fr) = true := decide_eq_true h1
  have t2 : decide (fr < (n : Int)) = true := decide_eq_true h2
  have t3 : decide (0 ≤ to) = true := decide_eq_true h3
  rw [t1, t2] at H2
  rw [t3] at H3
  go_enter Try.func45, Try.ntmps45
  go_wp2_with fail
  refine (H1.out _).mono ?_
  rintro e w' ⟨rfl, rfl⟩
  go_wp2_with fail
  go_ret
  exact ⟨ret_bool (by rw [HX.out, H2.out, H3.out]; rfl), HB.out _⟩

set_option maxRecDepth 100000 in
set_option maxHeartbeats 2000000 in
theorem validP_any (g : Gr) (An : Option Addr) (cn : Nat) (Ae : Option Addr) (ce : Nat) (w : World) (hT : GrAt w An cn Ae ce g) :
    Calls Try.prog 15 #[gval An g.ns.length cn Ae g.es.length ce] w fun e w' => e = .returned (.int .i64 (validE g)) ∧ Below w.heap.size w w' := by
  have hn1 := hT.cn
  have he1 := hT.ce
  unfold maxLen at hn1 he1
  have HT := Lib.hid hT
  have HL := Lib.hid (fun h => valid_long (g := g) h)
  have HN := Lib.hid (fun h1 h2 i hi h => valid_node (g := g) h1 h2 (i := i) hi h)
  have HE := Lib.hid (fun h1 h2 i hi h => valid_edge (g := g) h1 h2 (i := i) hi h)
  have HO := Lib.hid (fun h1 h2 h3 h4 => valid_ok (g := g) h1 h2 h3 h4)
  clear hT
  generalize validE g = R at HL HN HE HO ⊢
  by_cases h40 : 40 < g.ns.length
  · have HR := Lib.hid (HL.out (.inl h40))
    have t1 : decide (40 < (g.ns.length : Int)) = true := decide_eq_true (by omega)
    go_enter Try.func15, Try.ntmps15
    go_wp2_with fail
    go_ret
    exact ⟨ret_int (by rw [HR.out]; rfl), (Below.refl _ _).alloc (Nat.le_refl _) _⟩
  by_cases h80 : 80 < g.es.length
  · have HR := Lib.hid (HL.out (.inr h80))
    have t1 : decide (40 < (g.ns.length : Int)) = false := decide_eq_false (by omega)
    have t2 : decide (80 < (g.es.length : Int)) = true := decide_eq_true (by omega)
    go_enter Try.func15, Try.ntmps15
    go_wp2_with fail
    go_ret
    exact ⟨ret_int (by rw [HR.out]; rfl), (Below.refl _ _).alloc (Nat.le_refl _) _⟩
  have n40 : g.ns.length ≤ 40 := by omega
  have n80 : g.es.length ≤ 80 := by omega
  have HN' := Lib.hid (HN.out n40 n80)
  have HE' := Lib.hid (HE.out n40 n80)
  have HO' := Lib.hid (HO.out n40 n80)
  clear HL HN HE HO
  have t1 : decide (40 < (g.ns.length : Int)) = false := decide_eq_false (by omega)
  have t2 : decide (80 < (g.es.length : Int)) = false := decide_eq_false (by omega)
  clear h40 h80
  go_enter Try.func15, Try.ntmps15
  go_wp2_with fail
  clear t1 t2
  go_loop [20] (fun i => ∃ k : Nat, k ≤ g.ns.length ∧ i = .int .i64 k ∧ ∀ j, j < k → idxB (g.ns.getD j 0) 100 = true) (fun i => g.ns.length - (intOf i).toNat)
  case atStart => exact ⟨0, Nat.zero_le _, rfl, fun j hj => by omega⟩
  case round =>
    obtain ⟨k, hk, rfl, hok⟩ := hrel
    have HK := Lib.hid hok
    clear hok
    by_cases hlt : k < g.ns.length
    · obtain ⟨b, off, rfl, hb, hc⟩ := Ints.cells HT.out.ns hlt
      have ck := hc k hlt
      have HC : Hid (∀ u, Calls Try.prog 43 #[.int .i64 (g.ns.getD k 0), .int .i64 100] u fun e w' => e = .returned (.bool (idxB (g.ns.getD k 0) 100)) ∧ u = w') := Lib.hid fun u => isIndex_any _ 100 u
      clear hc
      by_cases h1 : idxB (g.ns.getD k 0) 100 = true
      · have HK2 : Hid (∀ j, j < k + 1 → idxB (g.ns.getD j 0) 100 = true) := Lib.hid fun j hj => by
          by_cases e : j = k
          · subst e; exact h1
          · exact HK.out j (by omega)
        rw [h1] at HC
        clear h1
        generalize g.ns.getD k 0 = x at ck HC
        go_wp2_with fail
        refine (HC.out _).mono ?_
        rintro e w' ⟨rfl, rfl⟩
        go_wp2_with fail
        go_round
        case rel => exact ⟨k + 1, by omega, by go_num, HK2.out⟩
        case measure => simp [intOf]; omega
      · have h1' : idxB (g.ns.getD k 0) 100 = false := by simpa using h1
        have HR := Lib.hid (HN'.out k hlt h1')
        rw [h1'] at HC
        clear h1 h1'
        generalize g.ns.getD k 0 = x at ck HC
        go_wp2_with fail
        refine (HC.out _).mono ?_
        rintro e w' ⟨rfl, rfl⟩
        go_wp2_with fail
        go_ret
        exact ⟨ret_int (by rw [HR.out]; rfl), (Below.refl _ _).alloc (Nat.le_refl _) _⟩
    · have HO2 := Lib.hid (HO'.out fun i hi => HK.out i (by omega))
      clear HO' HK
      go_wp2_with fail
      go_loopw [31] (fun i wr => ∃ k : Nat, k ≤ g.es.length ∧ i = .int .i64 k ∧ (∀ j, j < k → edB (g.es.getD j default) g.ns.length = true) ∧ Below (w.heap.size + 1) (w.alloc (.cells #[.slice An g.ns.length cn, .slice Ae g.es.length ce] 25 (0, 0))) wr) (fun i _ => g.es.length - (intOf i).toNat)
      case atStart => exact ⟨0, Nat.zero_le _, rfl, fun j hj => by omega, Below.refl _ _⟩
      case round =>
        obtain ⟨k, hk, rfl, hok, hbel⟩ := hrel
        obtain ⟨c0, c1⟩ := box_cell hbel
        have hsz : w.heap.size + 1 ≤ wr.heap.size := by have := hbel.size; simpa using this
        have hs0 : w.heap.size < wr.heap.size := by omega
        have HB := Lib.hid hbel
        have HK := Lib.hid hok
        clear hok hbel
        by_cases hlt : k < g.es.length
        · obtain ⟨b, off, rfl, hb, hc⟩ := Eds.cells (HT.out.es.below (box_below HB.out)) hlt
          obtain ⟨k0, k1, k2⟩ := hc k hlt
          have HC := Lib.hid (fun u => isEdge_any (g.es.getD k default) An g.ns.length cn (some ⟨b, off, none⟩) g.es.length ce u)
          have hbw : b < wr.heap.size := by omega
          clear hc
          by_cases h1 : edB (g.es.getD k default) g.ns.length = true
          · have HK2 : Hid (∀ j, j < k + 1 → edB (g.es.getD j default) g.ns.length = true) := Lib.hid fun j hj => by
              by_cases e : j = k
              · subst e; exact h1
              · exact HK.out j (by omega)
            rw [h1] at HC
            clear h1
            generalize g.es.getD k default = x at k0 k1 k2 HC
            go_wp2_with fail
            refine (HC.out _).mono ?_
            rintro e w2 ⟨rfl, hb2⟩
            have HB2 := Lib.hid ((HB.out.alloc hsz _).trans (hb2.mono (by simp; omega)))
            clear hb2
            go_wp2_with fail
            go_roundw
            case rel => exact ⟨k + 1, by omega, by go_num, HK2.out, HB2.out⟩
            case measure => simp [intOf]; omega
          · have h1' : edB (g.es.getD k default) g.ns.length = false := by simpa using h1
            have HR := Lib.hid (HE'.out k hlt h1')
            rw [h1'] at HC
            clear h1 h1'
            generalize g.es.getD k default = x at k0 k1 k2 HC
            go_wp2_with fail
            refine (HC.out _).mono ?_
            rintro e w2 ⟨rfl, hb2⟩
            have HB2 := Lib.hid ((HB.out.alloc hsz _).trans (hb2.mono (by simp; omega)))
            clear hb2
            go_wp2_with fail
            go_ret
            exact ⟨ret_int (by rw [HR.out]; rfl), box_below HB2.out⟩
        · have HR := Lib.hid (HO2.out fun i hi => HK.out i (by omega))
          go_wp2_with fail
          go_ret
          exact ⟨ret_int (by rw [HR.out]; rfl), box_below HB.out⟩

end Go.Proofs.Ytiafmhdicgmfaaa
