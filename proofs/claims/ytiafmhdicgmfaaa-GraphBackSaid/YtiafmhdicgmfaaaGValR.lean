/-
  Graphs: Valid of the reference.
-/
import Derived.Test.YtiafmhdicgmfaaaGVal
namespace Go.Proofs.Ytiafmhdicgmfaaa
open Go.RowKit

set_option maxRecDepth 100000 in
set_option maxHeartbeats 2000000 in
theorem validR_any (g : Gr) (An : Option Addr) (cn : Nat) (Ae : Option Addr) (ce : Nat) (w : World) (hT : GrAt w An cn Ae ce g) :
    Calls Try.prog 16 #[gval An g.ns.length cn Ae g.es.length ce] w fun e w' => e = .returned (.int .i64 (validE g)) ∧ Below w.heap.size w w' := by
  have hn1 := hT.cn
  have he1 := hT.ce
  unfold maxLen at hn1 he1
  have HT := Lib.hid hT
  have HL := Lib.hid (fun h => valid_long (g := g) h)
  have HN := Lib.hid (fun h1 h2 i hi h => valid_node (g := g) h1 h2 (i := i) hi h)
  have HE := Lib.hid (fun h1 h2 i hi h => valid_edge (g := g) h1 h2 (i := i) hi h)
  have HO := Lib.hid (fun h1 h2 h3 h4 => valid_ok (g := g) h1 h2 h3 h4)
  clear hT
  generalize validE g = R at HL HN HE HO ⊢
  by_cases h40 : 40 < g.ns.length
  · have HR := Lib.hid (HL.out (.inl h40))
    have t1 : decide (40 < (g.ns.length : Int)) = true := decide_eq_true (by omega)
    go_enter Try.func16, Try.ntmps16
    go_wp2_with fail
    go_ret
    exact ⟨ret_int (by rw [HR.out]; rfl), (Below.refl _ _).alloc (Nat.le_refl _) _⟩
  by_cases h80 : 80 < g.es.length
  · have HR := Lib.hid (HL.out (.inr h80))
    have t1 : decide (40 < (g.ns.length : Int)) = false := decide_eq_false (by omega)
    have t2 : decide (80 < (g.es.length : Int)) = true := decide_eq_true (by omega)
    go_enter Try.func16, Try.ntmps16
    go_wp2_with fail
    go_ret
    exact ⟨ret_int (by rw [HR.out]; rfl), (Below.refl _ _).alloc (Nat.le_refl _) _⟩
  have n40 : g.ns.length ≤ 40 := by omega
  have n80 : g.es.length ≤ 80 := by omega
  have HN' := Lib.hid (HN.out n40 n80)
  have HE' := Lib.hid (HE.out n40 n80)
  have HO' := Lib.hid (HO.out n40 n80)
  clear HL HN HE HO
  have t1 : decide (40 < (g.ns.length : Int)) = false := decide_eq_false (by omega)
  have t2 : decide (80 < (g.es.length : Int)) = false := decide_eq_false (by omega)
  clear h40 h80
  go_enter Try.func16, Try.ntmps16
  go_wp2_with fail
  clear t1 t2
  go_loop [3] (fun i => ∃ k : Nat, k ≤ g.ns.length ∧ i = .int .i64 k ∧ ∀ j, j < k → idxB (g.ns.getD j 0) 100 = true) (fun i => g.ns.length - (intOf i).toNat)
  case atStart => exact ⟨0, Nat.zero_le _, rfl, fun j hj => by omega⟩
  case round =>
    obtain ⟨k, hk, rfl, hok⟩ := hrel
    have HK := Lib.hid hok
    clear hok
    by_cases hlt : k < g.ns.length
    · obtain ⟨b, off, rfl, hb, hc⟩ := Ints.cells HT.out.ns hlt
      have ck := hc k hlt
      have HC : Hid (∀ u, Calls Try.prog 42 #[.int .i64 (g.ns.getD k 0)] u fun e w' => e = .returned (.bool (idxB (g.ns.getD k 0) 100)) ∧ u = w') := Lib.hid fun u => kind_any _ u
      clear hc
      by_cases h1 : idxB (g.ns.getD k 0) 100 = true
      · have HK2 : Hid (∀ j, j < k + 1 → idxB (g.ns.getD j 0) 100 = true) := Lib.hid fun j hj => by
          by_cases e : j = k
          · subst e; exact h1
          · exact HK.out j (by omega)
        rw [h1] at HC
        clear h1
        generalize g.ns.getD k 0 = x at ck HC
        go_wp2_with fail
        refine (HC.out _).mono ?_
        rintro e w' ⟨rfl, rfl⟩
        go_wp2_with fail
        go_round
        case rel => exact ⟨k + 1, by omega, by go_num, HK2.out⟩
        case measure => simp [intOf]; omega
      · have h1' : idxB (g.ns.getD k 0) 100 = false := by simpa using h1
        have HR := Lib.hid (HN'.out k hlt h1')
        rw [h1'] at HC
        clear h1 h1'
        generalize g.ns.getD k 0 = x at ck HC
        go_wp2_with fail
        refine (HC.out _).mono ?_
        rintro e w' ⟨rfl, rfl⟩
        go_wp2_with fail
        go_ret
        exact ⟨ret_int (by rw [HR.out]; rfl), (Below.refl _ _).alloc (Nat.le_refl _) _⟩
    · have HO2 := Lib.hid (HO'.out fun i hi => HK.out i (by omega))
      clear HO' HK
      go_wp2_with fail
      go_loopw [4] (fun i wr => ∃ k : Nat, k ≤ g.es.length ∧ i = .int .i64 k ∧ (∀ j, j < k → edB (g.es.getD j default) g.ns.length = true) ∧ Below (w.heap.size + 1) (w.alloc (.cells #[.slice An g.ns.length cn, .slice Ae g.es.length ce] 25 (0, 0))) wr) (fun i _ => g.es.length - (intOf i).toNat)
      case atStart => exact ⟨0, Nat.zero_le _, rfl, fun j hj => by omega, Below.refl _ _⟩
      case round =>
        obtain ⟨k, hk, rfl, hok, hbel⟩ := hrel
        obtain ⟨c0, c1⟩ := box_cell hbel
        have HB := Lib.hid hbel
        have HK := Lib.hid hok
        clear hok
        by_cases hlt : k < g.es.length
        · obtain ⟨b, off, rfl, hb, hc⟩ := Eds.cells HT.out.es hlt
          obtain ⟨k0, k1, k2⟩ := hc k hlt
          have HD : Hid (∀ u, Below (w.heap.size + 1) (w.alloc (.cells #[.slice An g.ns.length cn, .slice (some ⟨b, off, none⟩) g.es.length ce] 25 (0, 0))) u → u.cell? ⟨b, off + k * 3, none⟩ = some (.int .i64 (g.es.getD k default).ty) ∧ u.cell? ⟨b, off + k * 3 + 1, none⟩ = some (.int .i64 (g.es.getD k default).fr) ∧ u.cell? ⟨b, off + k * 3 + 2, none⟩ = some (.int .i64 (g.es.getD k default).to)) := Lib.hid fun u hu =>
            ⟨((box_below hu).cell (p := ⟨b, _, none⟩) hb).trans k0, ((box_below hu).cell (p := ⟨b, _, none⟩) hb).trans k1, ((box_below hu).cell (p := ⟨b, _, none⟩) hb).trans k2⟩
          have HS : Hid (∀ u, Below (w.heap.size + 1) (w.alloc (.cells #[.slice An g.ns.length cn, .slice (some ⟨b, off, none⟩) g.es.length ce] 25 (0, 0))) u → (u.cell? ⟨w.heap.size, 0, none⟩ = some (.slice An g.ns.length cn) ∧ u.cell? ⟨w.heap.size, 1, none⟩ = some (.slice (some ⟨b, off, none⟩) g.es.length ce)) ∧ (u.cell? ⟨b, off + k * 3, none⟩ = some (.int .i64 (g.es.getD k default).ty) ∧ u.cell? ⟨b, off + k * 3 + 1, none⟩ = some (.int .i64 (g.es.getD k default).fr) ∧ u.cell? ⟨b, off + k * 3 + 2, none⟩ = some (.int .i64 (g.es.getD k default).to)) ∧ Below (w.heap.size + 1) (w.alloc (.cells #[.slice An g.ns.length cn, .slice (some ⟨b, off, none⟩) g.es.length ce] 25 (0, 0))) u) := Lib.hid fun u hu => ⟨box_cell hu, HD.out u hu, hu⟩
          have HC : Hid (∀ u, Below (w.heap.size + 1) (w.alloc (.cells #[.slice An g.ns.length cn, .slice (some ⟨b, off, none⟩) g.es.length ce] 25 (0, 0))) u → Calls Try.prog 45 #[edv (g.es.getD k default), .int .i64 (g.ns.length : Int)] u fun e w' => e = .returned (.bool (edB (g.es.getD k default) g.ns.length)) ∧ ((w'.cell? ⟨w.heap.size, 0, none⟩ = some (.slice An g.ns.length cn) ∧ w'.cell? ⟨w.heap.size, 1, none⟩ = some (.slice (some ⟨b, off, none⟩) g.es.length ce)) ∧ (w'.cell? ⟨b, off + k * 3, none⟩ = some (.int .i64 (g.es.getD k default).ty) ∧ w'.cell? ⟨b, off + k * 3 + 1, none⟩ = some (.int .i64 (g.es.getD k default).fr) ∧ w'.cell? ⟨b, off + k * 3 + 2, none⟩ = some (.int .i64 (g.es.getD k default).to)) ∧ Below (w.heap.size + 1) (w.alloc (.cells #[.slice An g.ns.length cn, .slice (some ⟨b, off, none⟩) g.es.length ce] 25 (0, 0))) w')) := Lib.hid fun u hu => by
            refine (right_any (g.es.getD k default) g.ns.length u).mono ?_
            rintro e w' ⟨rfl, hb⟩
            exact ⟨rfl, HS.out w' (hu.trans (hb.mono (by have := hu.size; simpa using this)))⟩
          have HS1 := Lib.hid (HS.out _ (Below.drew hbel))
          have i0 : (0 : Int) ≤ (k : Int) := by omega
          have i1 : (k : Int) < (g.es.length : Int) := by omega
          have i2 : ((k : Int)).toNat = k := by omega
          clear hc hbel k0 k1 k2 HD
          by_cases h1 : edB (g.es.getD k default) g.ns.length = true
          · have HK2 : Hid (∀ j, j < k + 1 → edB (g.es.getD j default) g.ns.length = true) := Lib.hid fun j hj => by
              by_cases e : j = k
              · subst e; exact h1
              · exact HK.out j (by omega)
            rw [h1] at HC
            clear h1
            generalize g.es.getD k default = x at HC HS HS1
            clear HS
            go_wp2_with fail
            go_region_held3 (fun u => (u.cell? ⟨w.heap.size, 0, none⟩ = some (.slice An g.ns.length cn) ∧ u.cell? ⟨w.heap.size, 1, none⟩ = some (.slice (some ⟨b, off, none⟩) g.es.length ce)) ∧ (u.cell? ⟨b, off + k * 3, none⟩ = some (.int .i64 x.ty) ∧ u.cell? ⟨b, off + k * 3 + 1, none⟩ = some (.int .i64 x.fr) ∧ u.cell? ⟨b, off + k * 3 + 2, none⟩ = some (.int .i64 x.to)) ∧ Below (w.heap.size + 1) (w.alloc (.cells #[.slice An g.ns.length cn, .slice (some ⟨b, off, none⟩) g.es.length ce] 25 (0, 0))) u)
              (first | assumption | exact HS1.out)
              ((with_reducible refine (HC.out _ (by first | assumption | exact HS1.out.2.2)).mono ?_; rintro e w3 ⟨rfl, hs3⟩; have hq3 := hs3.2.2))
            all_goals
              have HB2 := Lib.hid (show Below (w.heap.size + 1) (w.alloc (.cells #[.slice An g.ns.length cn, .slice (some ⟨b, off, none⟩) g.es.length ce] 25 (0, 0))) _ by assumption)
              go_wp2_with fail
              go_roundw
              case rel => exact ⟨k + 1, by omega, by go_num, HK2.out, HB2.out⟩
              case measure => simp [intOf]; omega
          · have h1' : edB (g.es.getD k default) g.ns.length = false := by simpa using h1
            have HR := Lib.hid (HE'.out k hlt h1')
            rw [h1'] at HC
            clear h1 h1'
            generalize g.es.getD k default = x at HC HS HS1
            clear HS
            go_wp2_with fail
            go_region_held3 (fun u => (u.cell? ⟨w.heap.size, 0, none⟩ = some (.slice An g.ns.length cn) ∧ u.cell? ⟨w.heap.size, 1, none⟩ = some (.slice (some ⟨b, off, none⟩) g.es.length ce)) ∧ (u.cell? ⟨b, off + k * 3, none⟩ = some (.int .i64 x.ty) ∧ u.cell? ⟨b, off + k * 3 + 1, none⟩ = some (.int .i64 x.fr) ∧ u.cell? ⟨b, off + k * 3 + 2, none⟩ = some (.int .i64 x.to)) ∧ Below (w.heap.size + 1) (w.alloc (.cells #[.slice An g.ns.length cn, .slice (some ⟨b, off, none⟩) g.es.length ce] 25 (0, 0))) u)
              (first | assumption | exact HS1.out)
              ((with_reducible refine (HC.out _ (by first | assumption | exact HS1.out.2.2)).mono ?_; rintro e w3 ⟨rfl, hs3⟩; have hq3 := hs3.2.2))
            all_goals
              have HB2 := Lib.hid (show Below (w.heap.size + 1) (w.alloc (.cells #[.slice An g.ns.length cn, .slice (some ⟨b, off, none⟩) g.es.length ce] 25 (0, 0))) _ by assumption)
              go_wp2_with fail
              go_ret
              exact ⟨ret_int (by rw [HR.out]; rfl), box_below HB2.out⟩
        · have HR := Lib.hid (HO2.out fun i hi => HK.out i (by omega))
          clear hbel
          go_wp2_with fail
          go_ret
          exact ⟨ret_int (by rw [HR.out]; rfl), box_below HB.out⟩

end Go.Proofs.Ytiafmhdicgmfaaa
