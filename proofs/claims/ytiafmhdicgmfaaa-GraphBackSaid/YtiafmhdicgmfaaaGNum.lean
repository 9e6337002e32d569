/-
  Graphs: numbers, Numbers, placesWithout, places, checkAscending, ascending.
-/
import Derived.Test.YtiafmhdicgmfaaaGSame
namespace Go.Proofs.Ytiafmhdicgmfaaa
open Go.RowKit

theorem wpList_make_Z {w : World} {ops : Array Oper} {rest : List Oper} {o : Oper} {a : Act} {Q : Exit → Act → World → Prop} (hgd : o.guard = none) (l c : Operand)
    (ho : o.op = Op.makeSlice 22 l c) (base n : Nat) (hl : a.eval l = .int .i64 (n : Int)) (hc : a.eval c = .int .i64 (n : Int)) (hn : n ≤ 1000000) (hbase : base ≤ w.heap.size)
    (hK : ∀ w', OwnI w' base (.slice (some ⟨w.heap.size, 0, none⟩) n n) (List.replicate n 0) → Below w.heap.size w w' → w.heap.size < w'.heap.size → wpList Try.prog ops Q rest (a.put o.dst (.slice (some ⟨w.heap.size, 0, none⟩) n n)) w') : wpList Try.prog ops Q (o :: rest) a w := by
  obtain ⟨i0, hi, hz0, hz1, hz2⟩ := info_parts infoInt
  refine wpList_make_full w hgd l c 22 ho base 3 i0 (.int .i64 0) 1 Try.underlying22 hi hz0 hz1 .i64 .i64 _ _ n hl hc rfl rfl (by rw [hz2]; omega) (by unfold maxLen; omega) hbase ?_
  intro w' h1 h2
  have h3 : OwnI w' base (.slice (some ⟨w.heap.size, 0, none⟩) n n) (List.replicate n 0) := by
    unfold OwnI OwnE
    rw [cellsE_int, List.length_replicate]
    have e : (madeCells (Value.int .i64 0).cells (n * 1)).toList = (List.replicate n (0 : Int)).map (Value.int .i64) := by
      rw [Nat.mul_one]
      refine (toList_madeCells_one _ _).trans ?_
      rw [List.map_replicate]
    rw [e] at h1
    exact h1
  exact hK w' h3 ((Below.refl _ w).grown h2 (Nat.le_refl _) (by intro k hk; cases hk)) (OwnE.lt h3 _ rfl).2

theorem numS_len (a : Int) (n : Nat) : (numS a n).length = n := coll_len _ _

set_option maxHeartbeats 1000000 in
theorem numbersP_any (a : Int) (n : Nat) (w : World) (ha0 : 0 ≤ a) (ha : a ≤ 1000) (hn : n ≤ 1000) :
    Calls Try.prog 56 #[.int .i64 a, .int .i64 (n : Int)] w fun e w' => ∃ v, e = .returned v ∧ OwnI w' w.heap.size v (numS a n) ∧ Below w.heap.size w w' := by
  have HP := Lib.hid (fun k (h : k < n) => pad_set (fun i => a + (i : Int)) 0 h)
  have HPL := Lib.hid (fun k (h : k ≤ n) => pad_len (fun i => a + (i : Int)) 0 h)
  have HZ := Lib.hid (pad_zero (fun i => a + (i : Int)) 0 n)
  have HE := Lib.hid (pad_all (fun i => a + (i : Int)) 0 n)
  have HN : Hid (numS a n = coll (fun i => [a + (i : Int)]) n) := Lib.hid rfl
  generalize numS a n = R at HN ⊢
  generalize pad (fun i => a + (i : Int)) 0 n = P at HP HPL HZ HE
  go_enter Try.func56, Try.ntmps56
  go_wp2_with (at_make; refine wpList_make_Z rfl _ _ rfl w.heap.size n rfl rfl (by omega) (Nat.le_refl _) ?_; intro w1 hown hb hsz)
  have HO := Lib.hid hown
  have HB := Lib.hid hb
  clear hown hb
  go_wp2_with fail
  go_loopw [11] (fun x wr => ∃ k : Nat, k ≤ n ∧ x = .int .i64 k ∧ OwnI wr w.heap.size (.slice (some ⟨w.heap.size, 0, none⟩) n n) (P k) ∧ Below w.heap.size w wr) (fun x _ => n - (intOf x).toNat)
  case atStart => exact ⟨0, Nat.zero_le _, rfl, by rw [HZ.out]; exact HO.out, HB.out⟩
  case round =>
    obtain ⟨k, hk, rfl, hown, hbel⟩ := hrel
    have HG := Lib.hid hbel
    by_cases hlt : k < n
    · have hln := HPL.out k hk
      have ck := OwnI.cell hln.symm hown hlt
      have fk := OwnI.free hln.symm hown k
      have hset := OwnI.set hln.symm hown k (a + (k : Int))
      rw [HP.out k hlt] at hset
      have HW := Lib.hid hset
      generalize (P k).getD k 0 = y at ck
      clear hset hown hbel hln
      go_wp2_with fail
      go_roundw
      case rel => exact ⟨k + 1, by omega, by go_num, HW.out.1, HG.out.setCell (p := ⟨w.heap.size, k, none⟩) (Nat.le_refl _) _⟩
      case measure => simp [intOf]; omega
    · have e : k = n := by omega
      subst e
      have HW := Lib.hid (OwnE.cast (HE.out.trans HN.out.symm) hown)
      clear hown
      go_wp2_with fail
      go_ret
      exact ⟨_, rfl, HW.out, HG.out⟩

set_option maxHeartbeats 1000000 in
theorem numbersR_any (a : Int) (n : Nat) (w : World) (ha0 : 0 ≤ a) (ha : a ≤ 1000) (hn : n ≤ 1000) :
    Calls Try.prog 35 #[.int .i64 a, .int .i64 (n : Int)] w fun e w' => ∃ v, e = .returned v ∧ OwnI w' w.heap.size v (numS a n) ∧ Below w.heap.size w w' := by
  have HN : Hid (∀ k, coll (fun i => [a + (i : Int)]) (k + 1) = coll (fun i => [a + (i : Int)]) k ++ [a + (k : Int)]) := Lib.hid fun k => rfl
  have HNL := Lib.hid (coll_len (fun i : Nat => a + (i : Int)))
  have H0 : Hid (coll (fun i => [a + (i : Int)]) 0 = []) := Lib.hid rfl
  have HR : Hid (numS a n = coll (fun i => [a + (i : Int)]) n) := Lib.hid rfl
  generalize numS a n = R at HR ⊢
  generalize coll (fun i => [a + (i : Int)]) = P at HN HNL H0 HR
  go_enter Try.func35, Try.ntmps35
  go_wp2_with fail
  go_loopw [5, 6] (fun v x wr => ∃ k : Nat, k ≤ n ∧ x = .int .i64 k ∧ OwnI wr w.heap.size v (P k) ∧ Below w.heap.size w wr) (fun _ x _ => n - (intOf x).toNat)
  case atStart => exact ⟨0, Nat.zero_le _, rfl, by rw [H0.out]; exact OwnE.nil _ _ _, Below.refl _ _⟩
  case round =>
    obtain ⟨k, hk, rfl, hown, hbel⟩ := hrel
    have HG := Lib.hid hbel
    have hsz := hbel.size
    have HLN := Lib.hid (HNL.out k)
    obtain ⟨ao, cap, rfl⟩ := OwnE.slice hown
    have HW := Lib.hid hown
    clear hown hbel
    by_cases hlt : k < n
    · have e9 : (P k).length ≤ 1000 := by rw [HLN.out]; omega
      go_wp2_with (at_builtin; refine wpList_append_int (w := wr.alloc _) rfl _ _ rfl w.heap.size _ (P k) rfl ?y1 wr.heap.size 1 (a + (k : Int)) rfl ?y2 ?y3 ?y4 ?_)
      case y1 => exact HW.out.alloc _
      case y2 => exact cell_new _ _ _
      case y3 => omega
      case y4 => simp; omega
      intro v2 w2 hown2 _ hb2
      have HW2 := Lib.hid (OwnE.cast (HN.out k).symm hown2)
      have HB2 := Lib.hid ((HG.out.alloc hsz _).trans hb2)
      clear hown2 hb2
      go_wp2_with fail
      go_roundw
      case rel => exact ⟨k + 1, by omega, by go_num, HW2.out, HB2.out⟩
      case measure => simp [intOf]; omega
    · have e : k = n := by omega
      subst e
      have HW2 := Lib.hid (OwnE.cast HR.out.symm HW.out)
      go_wp2_with fail
      go_ret
      exact ⟨_, rfl, HW2.out, HG.out⟩

set_option maxRecDepth 100000 in
set_option maxHeartbeats 2000000 in
theorem placesP_any (l : List Int) (n : Nat) (A : Option Addr) (c : Nat) (w : World) (hl : l.length ≤ 1000) (hn : n ≤ 1000) (hs : Asc l) (h0 : ∀ x ∈ l, 0 ≤ x) (hA : Ints w w.heap.size A l) :
    Calls Try.prog 51 #[.slice A l.length c, .int .i64 (n : Int)] w fun e w' => ∃ v, e = .returned v ∧ OwnI w' w.heap.size v (plcs l n) ∧ Below w.heap.size w w' := by
  have HS := Lib.hid (fun (i : Nat) u (hu : Below w.heap.size w u) => bin_any l i A w.heap.size c u (by omega) (Reads.below hA hu) hs)
  have HIN := Lib.hid (fun (i : Nat) (h : (i : Int) ∈ l) => plc_in h)
  have HOUT := Lib.hid (fun (i : Nat) (h : ¬ (i : Int) ∈ l) => plc_out h)
  have HCL := Lib.hid (cnt_le hs h0)
  have HP := Lib.hid (fun k (h : k < n) => pad_set (plc l) 0 h)
  have HPL := Lib.hid (fun k (h : k ≤ n) => pad_len (plc l) 0 h)
  have HZ := Lib.hid (pad_zero (plc l) 0 n)
  have HE : Hid (pad (plc l) 0 n n = plcs l n) := Lib.hid (pad_all (plc l) 0 n)
  clear hA hs h0
  generalize plcs l n = R at HE ⊢
  generalize pad (plc l) 0 n = P at HP HPL HZ HE
  generalize plc l = f at HP HIN HOUT
  go_enter Try.func51, Try.ntmps51
  go_wp2_with (at_make; refine wpList_make_Z rfl _ _ rfl w.heap.size n rfl rfl (by omega) (Nat.le_refl _) ?_; intro w1 hown hb hsz)
  have HO := Lib.hid hown
  have HB := Lib.hid hb
  clear hown hb
  go_wp2_with fail
  go_loopw [13] (fun x wr => ∃ k : Nat, k ≤ n ∧ x = .int .i64 k ∧ OwnI wr w.heap.size (.slice (some ⟨w.heap.size, 0, none⟩) n n) (P k) ∧ Below w.heap.size w wr) (fun x _ => n - (intOf x).toNat)
  case atStart => exact ⟨0, Nat.zero_le _, rfl, by rw [HZ.out]; exact HO.out, HB.out⟩
  case round =>
    obtain ⟨k, hk, rfl, hown, hbel⟩ := hrel
    have HG := Lib.hid hbel
    by_cases hlt : k < n
    · have hc0 := HCL.out k
      have HC := HS.out k wr hbel
      by_cases hin : (k : Int) ∈ l
      · have hf := HIN.out k hin
        rw [decide_eq_true hin] at HC
        have HC := Lib.hid HC
        have hW : ∀ q, OwnI ((wr.drewN q).setCell ⟨w.heap.size, k, none⟩ (.int .i64 (-1))) w.heap.size (.slice (some ⟨w.heap.size, 0, none⟩) n n) (P (k + 1)) ∧ (wr.drewN q).cell? ⟨w.heap.size, k, none⟩ = some (.int .i64 ((P k).getD k 0)) ∧ (wr.drewN q).frozen? ⟨w.heap.size, k, none⟩ = false := fun q => by
          have ho : OwnI (wr.drewN q) w.heap.size (.slice (some ⟨w.heap.size, 0, none⟩) n n) (P k) := OwnE.below hown (below_draws (Below.refl _ _) q) (Nat.le_refl _)
          have hln := HPL.out k hk
          have := (OwnI.set hln.symm ho k (f k)).1
          rw [HP.out k hlt, hf] at this
          exact ⟨this, OwnI.cell hln.symm ho hlt, OwnI.free hln.symm ho k⟩
        have HW := Lib.hid hW
        clear hin hf hown hbel hW HIN HOUT HP HS
        generalize cntL l k = y at HC hc0
        go_wp2_with fail
        refine HC.out.mono ?_
        rintro e w2 ⟨rfl, q, rfl⟩
        have ck := (HW.out q).2.1
        have fk := (HW.out q).2.2
        go_wp2_with fail
        go_roundw
        case rel => exact ⟨k + 1, by omega, by go_num, (HW.out q).1, (below_draws HG.out q).setCell (p := ⟨w.heap.size, k, none⟩) (Nat.le_refl _) _⟩
        case measure => simp [intOf]; omega
      · have hf := HOUT.out k hin
        rw [decide_eq_false hin] at HC
        have HC := Lib.hid HC
        have hW : ∀ q, OwnI ((wr.drewN q).setCell ⟨w.heap.size, k, none⟩ (.int .i64 ((k : Int) - (cntL l k : Nat)))) w.heap.size (.slice (some ⟨w.heap.size, 0, none⟩) n n) (P (k + 1)) ∧ (wr.drewN q).cell? ⟨w.heap.size, k, none⟩ = some (.int .i64 ((P k).getD k 0)) ∧ (wr.drewN q).frozen? ⟨w.heap.size, k, none⟩ = false := fun q => by
          have ho : OwnI (wr.drewN q) w.heap.size (.slice (some ⟨w.heap.size, 0, none⟩) n n) (P k) := OwnE.below hown (below_draws (Below.refl _ _) q) (Nat.le_refl _)
          have hln := HPL.out k hk
          have := (OwnI.set hln.symm ho k (f k)).1
          rw [HP.out k hlt, hf] at this
          exact ⟨this, OwnI.cell hln.symm ho hlt, OwnI.free hln.symm ho k⟩
        have HW := Lib.hid hW
        clear hin hf hown hbel hW HIN HOUT HP HS
        generalize cntL l k = y at HC hc0 HW
        go_wp2_with fail
        refine HC.out.mono ?_
        rintro e w2 ⟨rfl, q, rfl⟩
        have ck := (HW.out q).2.1
        have fk := (HW.out q).2.2
        go_wp2_with fail
        go_roundw
        case rel => exact ⟨k + 1, by omega, by go_num, (HW.out q).1, (below_draws HG.out q).setCell (p := ⟨w.heap.size, k, none⟩) (Nat.le_refl _) _⟩
        case measure => simp [intOf]; omega
    · have e : k = n := by omega
      subst e
      have HW := Lib.hid (OwnE.cast HE.out hown)
      clear hown
      go_wp2_with fail
      go_ret
      exact ⟨_, rfl, HW.out, HG.out⟩

end Go.Proofs.Ytiafmhdicgmfaaa
