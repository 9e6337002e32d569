/-
  Graphs: checkAscending, ascending, places.
-/
import Derived.Test.YtiafmhdicgmfaaaGNum
import Derived.Test.YtiafmhdicgmfaaaGChk
namespace Go.Proofs.Ytiafmhdicgmfaaa
open Go.RowKit

theorem asc_six {l : List Int} {n k : Nat} (h : idxB (l.getD k 0) n = false) : ascAt l n k = 6 := if_pos h
theorem asc_twelve {l : List Int} {n k : Nat} (h : idxB (l.getD k 0) n = true) (h2 : 0 < k) (h3 : l.getD k 0 ≤ l.getD (k - 1) 0) : ascAt l n k = 12 := by
  unfold ascAt
  rw [if_neg (by rw [h]; simp), if_pos ⟨h2, h3⟩]
theorem asc_pass {l : List Int} {n k : Nat} (h : idxB (l.getD k 0) n = true) (h2 : ¬ (0 < k ∧ l.getD k 0 ≤ l.getD (k - 1) 0)) : ascAt l n k = 0 := by
  unfold ascAt
  rw [if_neg (by rw [h]; simp), if_neg h2]

set_option maxRecDepth 100000 in
set_option maxHeartbeats 2000000 in
theorem ascP_any (l : List Int) (n : Nat) (A : Option Addr) (B c : Nat) (w : World) (hl : l.length ≤ maxLen) (hA : Ints w B A l) :
    Calls Try.prog 64 #[.slice A l.length c, .int .i64 (n : Int)] w fun e w' => e = .returned (.int .i64 (ascE l n)) ∧ w = w' := by
  unfold maxLen at hl
  have HT := Lib.hid hA
  have HI := Lib.hid (fun x u => isIndex_any x n u)
  have H6 := Lib.hid (fun k h => asc_six (l := l) (n := n) (k := k) h)
  have H12 := Lib.hid (fun k h h2 h3 => asc_twelve (l := l) (n := n) (k := k) h h2 h3)
  have HP := Lib.hid (fun k h h2 => asc_pass (l := l) (n := n) (k := k) h h2)
  have HHIT := Lib.hid (fun k (h : k < l.length) hf => fstN_hit (f := ascAt l n) h hf)
  have HPASS := Lib.hid (fun k (h : k < l.length) hf => fstN_pass (f := ascAt l n) h hf)
  have HEND := Lib.hid (fun k (h : l.length ≤ k) => fstN_end (f := ascAt l n) h)
  have HX : Hid (ascE l n = fstN (ascAt l n) 0 (l.length - 0)) := Lib.hid rfl
  clear hA
  generalize ascE l n = R at HX ⊢
  generalize ascAt l n = f at *
  go_enter Try.func64, Try.ntmps64
  go_wp2_with fail
  go_loop [9] (fun i => ∃ k : Nat, k ≤ l.length ∧ i = .int .i64 k ∧ R = fstN f k (l.length - k)) (fun i => l.length - (intOf i).toNat)
  case atStart => exact ⟨0, Nat.zero_le _, rfl, HX.out⟩
  case round =>
    clear HX
    obtain ⟨k, hk, rfl, hr⟩ := hrel
    have HR := Lib.hid hr
    clear hr
    by_cases hlt : k < l.length
    · obtain ⟨b, off, rfl, hb, hc⟩ := Ints.cells HT.out hlt
      have ck := hc k hlt
      have HC := Lib.hid (HI.out (l.getD k 0))
      by_cases h1 : idxB (l.getD k 0) n = true
      case neg =>
        have h1' : idxB (l.getD k 0) n = false := by simpa using h1
        have h6 := H6.out k h1'
        have HE := Lib.hid (show R = 6 by rw [HR.out, HHIT.out k hlt (by omega), h6])
        rw [h1'] at HC
        clear hc h6 h1 h1'
        generalize l.getD k 0 = x at *
        go_wp2_with fail
        refine (HC.out _).mono ?_
        rintro e w' ⟨rfl, rfl⟩
        go_wp2_with fail
        go_ret
        exact ⟨ret_int (by rw [HE.out]; rfl), rfl⟩
      by_cases h0 : 0 < k
      · have ck1 := hc (k - 1) (by omega)
        have e1 : (k : Int) - 1 = ((k - 1 : Nat) : Int) := by omega
        have q0 : (0 : Int) ≤ (k : Int) - 1 := by omega
        have q1 : (k : Int) - 1 < (l.length : Int) := by omega
        have q2 : ((k : Int) - 1).toNat = k - 1 := by omega
        have q3 : (0 : Int) < (k : Int) := by omega
        clear hc
        by_cases h2 : l.getD k 0 ≤ l.getD (k - 1) 0
        · have h6 := H12.out k h1 h0 h2
          have HE := Lib.hid (show R = 12 by rw [HR.out, HHIT.out k hlt (by omega), h6])
          rw [h1] at HC
          clear h6 h1 e1
          generalize l.getD k 0 = x at *
          generalize l.getD (k - 1) 0 = y at *
          have t1 : decide (x ≤ y) = true := decide_eq_true h2
          clear h2
          go_wp2_with fail
          refine (HC.out _).mono ?_
          rintro e w' ⟨rfl, rfl⟩
          go_wp2_with fail
          go_ret
          exact ⟨ret_int (by rw [HE.out]; rfl), rfl⟩
        · have h6 := HP.out k h1 (fun h => h2 h.2)
          have HE := Lib.hid (show R = fstN f (k + 1) (l.length - (k + 1)) by rw [HR.out, HPASS.out k hlt h6])
          rw [h1] at HC
          clear h6 h1 e1
          generalize l.getD k 0 = x at *
          generalize l.getD (k - 1) 0 = y at *
          have t1 : decide (x ≤ y) = false := decide_eq_false h2
          clear h2
          go_wp2_with fail
          refine (HC.out _).mono ?_
          rintro e w' ⟨rfl, rfl⟩
          go_wp2_with fail
          go_round
          case rel => exact ⟨k + 1, by omega, by go_num, HE.out⟩
          case measure => simp [intOf]; omega
      · have h6 := HP.out k h1 (fun h => h0 h.1)
        have HE := Lib.hid (show R = fstN f (k + 1) (l.length - (k + 1)) by rw [HR.out, HPASS.out k hlt h6])
        rw [h1] at HC
        clear h6 h1 hc
        generalize l.getD k 0 = x at *
        have q3 : decide (0 < (k : Int)) = false := decide_eq_false (by omega)
        have q4 : decide (0 < k) = false := decide_eq_false h0
        clear h0
        go_wp2_with fail
        refine (HC.out _).mono ?_
        rintro e w' ⟨rfl, rfl⟩
        go_wp2_with fail
        go_round
        case rel => exact ⟨k + 1, by omega, by go_num, HE.out⟩
        case measure => simp [intOf]; omega
    · have HE := Lib.hid (show R = 0 by rw [HR.out, HEND.out k (by omega)])
      go_wp2_with fail
      go_ret
      exact ⟨ret_int (by rw [HE.out]; rfl), rfl⟩

set_option maxRecDepth 100000 in
set_option maxHeartbeats 2000000 in
theorem ascR_any (l : List Int) (n : Nat) (A : Option Addr) (B c : Nat) (w : World) (hl : l.length ≤ maxLen) (hA : Ints w B A l) :
    Calls Try.prog 53 #[.slice A l.length c, .int .i64 (n : Int)] w fun e w' => e = .returned (.int .i64 (ascE l n)) ∧ ∃ q, w' = w.drewN q := by
  unfold maxLen at hl
  have HT := Lib.hid hA
  have HID : Hid (∀ x, idxB x n = (decide (0 ≤ x) && decide (x < (n : Int)))) := Lib.hid fun x => rfl
  have H6 := Lib.hid (fun k h => asc_six (l := l) (n := n) (k := k) h)
  have H12 := Lib.hid (fun k h h2 h3 => asc_twelve (l := l) (n := n) (k := k) h h2 h3)
  have HP := Lib.hid (fun k h h2 => asc_pass (l := l) (n := n) (k := k) h h2)
  have HHIT := Lib.hid (fun k (h : k < l.length) hf => fstN_hit (f := ascAt l n) h hf)
  have HPASS := Lib.hid (fun k (h : k < l.length) hf => fstN_pass (f := ascAt l n) h hf)
  have HEND := Lib.hid (fun k (h : l.length ≤ k) => fstN_end (f := ascAt l n) h)
  have HX : Hid (ascE l n = fstN (ascAt l n) 0 (l.length - 0)) := Lib.hid rfl
  clear hA
  generalize ascE l n = R at HX ⊢
  generalize ascAt l n = f at *
  go_enter Try.func53, Try.ntmps53
  go_wp2_with fail
  go_loopw [5] (fun i wr => ∃ k q : Nat, k ≤ l.length ∧ i = .int .i64 k ∧ R = fstN f k (l.length - k) ∧ wr = w.drewN q) (fun i _ => l.length - (intOf i).toNat)
  case atStart => exact ⟨0, 0, Nat.zero_le _, rfl, HX.out, rfl⟩
  case round =>
    clear HX
    obtain ⟨k, q, hk, rfl, hr, rfl⟩ := hrel
    have HR := Lib.hid hr
    clear hr
    by_cases hlt : k < l.length
    · obtain ⟨b, off, rfl, hb, hc⟩ := Ints.cells HT.out hlt
      have ck := hc k hlt
      by_cases h1 : idxB (l.getD k 0) n = true
      case neg =>
        have h1' : idxB (l.getD k 0) n = false := by simpa using h1
        have h6 := H6.out k h1'
        have HE := Lib.hid (show R = 6 by rw [HR.out, HHIT.out k hlt (by omega), h6])
        have hx := idxB_not.1 h1'
        clear hc h6 h1 h1'
        generalize l.getD k 0 = x at *
        by_cases hx0 : x < 0
        · clear hx
          go_wp2_with fail
          go_ret
          exact ⟨ret_int (by rw [HE.out]; rfl), _, rfl⟩
        · have hx1 : (n : Int) ≤ x := by omega
          clear hx
          go_wp2_with fail
          go_ret
          exact ⟨ret_int (by rw [HE.out]; rfl), _, rfl⟩
      obtain ⟨g0, g1⟩ := idxB_iff.1 h1
      by_cases h0 : 0 < k
      · have ck1 := hc (k - 1) (by omega)
        have q0 : (0 : Int) ≤ (k : Int) - 1 := by omega
        have q1 : (k : Int) - 1 < (l.length : Int) := by omega
        have q2 : ((k : Int) - 1).toNat = k - 1 := by omega
        have q3 : decide (0 < (k : Int)) = true := decide_eq_true (by omega)
        have q4 : decide (0 < k) = true := decide_eq_true (by omega)
        have i0 : (0 : Int) ≤ (k : Int) := by omega
        have i1 : (k : Int) < (l.length : Int) := by omega
        have i2 : ((k : Int)).toNat = k := by omega
        have e1 : IntKind.i64.wrap ((k : Int) - 1) = (k : Int) - 1 := IntWalk.i64_in _ (by omega)
        clear hc
        by_cases h2 : l.getD k 0 ≤ l.getD (k - 1) 0
        · have h6 := H12.out k h1 h0 h2
          have HE := Lib.hid (show R = 12 by rw [HR.out, HHIT.out k hlt (by omega), h6])
          clear h6 h1
          generalize l.getD k 0 = x at *
          generalize l.getD (k - 1) 0 = y at *
          have t1 : decide (x ≤ y) = true := decide_eq_true h2
          clear h2
          go_wp2_with fail
          go_quiet (fail)
          go_wp2_with fail
          go_ret
          exact ⟨ret_int (by rw [HE.out]; rfl), _, (by first | rfl | exact World.drewN_drewN _ _ _)⟩
        · have h6 := HP.out k h1 (fun h => h2 h.2)
          have HE := Lib.hid (show R = fstN f (k + 1) (l.length - (k + 1)) by rw [HR.out, HPASS.out k hlt h6])
          clear h6 h1
          generalize l.getD k 0 = x at *
          generalize l.getD (k - 1) 0 = y at *
          have t1 : decide (x ≤ y) = false := decide_eq_false h2
          clear h2
          go_wp2_with fail
          go_quiet (fail)
          clear e1
          go_wp2_with fail
          go_roundw
          case rel => exact ⟨k + 1, _, by omega, by go_num, HE.out, rfl⟩
          case measure => simp [intOf]; omega
      · have h6 := HP.out k h1 (fun h => h0 h.1)
        have HE := Lib.hid (show R = fstN f (k + 1) (l.length - (k + 1)) by rw [HR.out, HPASS.out k hlt h6])
        clear h6 h1 hc
        generalize l.getD k 0 = x at *
        have q3 : decide (0 < (k : Int)) = false := decide_eq_false (by omega)
        have q4 : decide (0 < k) = false := decide_eq_false h0
        clear h0
        go_wp2_with fail
        go_quiet (fail)
        go_wp2_with fail
        go_roundw
        case rel => exact ⟨k + 1, _, by omega, by go_num, HE.out, rfl⟩
        case measure => simp [intOf]; omega
    · have HE := Lib.hid (show R = 0 by rw [HR.out, HEND.out k (by omega)])
      go_wp2_with fail
      go_ret
      exact ⟨ret_int (by rw [HE.out]; rfl), _, rfl⟩

set_option maxRecDepth 100000 in
set_option maxHeartbeats 2000000 in
theorem placesR_any (l : List Int) (n : Nat) (A : Option Addr) (c : Nat) (w : World) (hl : l.length ≤ 1000) (hn : n ≤ 1000) (hs : Asc l) (h0 : ∀ x ∈ l, 0 ≤ x) (hA : Ints w w.heap.size A l) :
    Calls Try.prog 54 #[.int .i64 (n : Int), .slice A l.length c] w fun e w' => ∃ v, e = .returned v ∧ OwnI w' w.heap.size v (plcs l n) ∧ Below w.heap.size w w' := by
  have HT := Lib.hid hA
  have HIN := Lib.hid (fun (i : Nat) (h : (i : Int) ∈ l) => plc_in h)
  have HOUT := Lib.hid (fun (i : Nat) (h : ¬ (i : Int) ∈ l) => plc_out h)
  have HCL := Lib.hid (cnt_le hs h0)
  have HCN := Lib.hid (cnt_len l)
  have HCS := Lib.hid (cnt_succ hs)
  have HAT := Lib.hid (asc_at hs)
  have HZ := Lib.hid (cnt_zero h0)
  have HN : Hid (∀ k, plcs l (k + 1) = plcs l k ++ [plc l k]) := Lib.hid fun k => rfl
  have HNL : Hid (∀ k, (plcs l k).length = k) := Lib.hid fun k => coll_len _ _
  have HP0 : Hid (plcs l 0 = []) := Lib.hid rfl
  have HAD : Hid (∀ j, j < l.length → l[j]? = some (l.getD j 0)) := Lib.hid fun j hj => by rw [List.getD_eq_getElem?_getD, List.getElem?_eq_getElem hj]; rfl
  clear hA hs h0
  generalize plcs l = P at *
  generalize plc l = f at *
  generalize cntL l = q at *
  go_enter Try.func54, Try.ntmps54
  go_wp2_with fail
  go_loopw [5, 6, 7, 8] (fun v vn va vi wr => ∃ k : Nat, k ≤ n ∧ vi = .int .i64 k ∧ va = .int .i64 (q k : Nat) ∧ vn = .int .i64 ((k : Int) - (q k : Nat)) ∧ OwnI wr w.heap.size v (P k) ∧ Below w.heap.size w wr) (fun _ _ _ vi _ => n - (intOf vi).toNat)
  case atStart => exact ⟨0, Nat.zero_le _, rfl, by rw [HZ.out]; rfl, by rw [HZ.out]; rfl, by rw [HP0.out]; exact OwnE.nil _ _ _, Below.refl _ _⟩
  case round =>
    obtain ⟨k, hk, rfl, rfl, rfl, hown, hbel⟩ := hrel
    have HG := Lib.hid hbel
    have hsz := hbel.size
    have HLN := Lib.hid (HNL.out k)
    obtain ⟨ao, cap, rfl⟩ := OwnE.slice hown
    have HW := Lib.hid hown
    clear hown hbel
    have e8 : (P k).length ≤ 1000 := by rw [HLN.out]; omega
    have hq := HCL.out k
    have hqn := HCN.out k
    by_cases hlt : k < n
    case neg =>
      have e : k = n := by omega
      subst e
      go_wp2_with fail
      go_ret
      exact ⟨_, rfl, HW.out, HG.out⟩
    by_cases hin : (k : Int) ∈ l
    · have h1 := (HAT.out k).2 hin
      have hql : q k < l.length := by
        rcases Nat.lt_or_ge (q k) l.length with h | h
        · exact h
        · rw [List.getElem?_eq_none h] at h1; cases h1
      have h2 : l.getD (q k) 0 = (k : Int) := by have := HAD.out _ hql; rw [h1] at this; injection this with this; exact this.symm
      obtain ⟨b, off, rfl, hb, hc⟩ := Ints.cells (HT.out.below HG.out) hql
      have ck := hc (q k) hql
      rw [h2] at ck
      have HS : Hid (q (k + 1) = q k + 1) := Lib.hid (by rw [HCS.out, if_pos hin])
      have HF := Lib.hid (HIN.out k hin)
      have t1 : decide ((q k : Int) < (l.length : Int)) = true := decide_eq_true (by omega)
      have t3 : ((k : Int) == (k : Int)) = true := by simp
      clear h1 h2 hin hc
      generalize hy : q k = y at *
      have HY := Lib.hid hy
      clear hy
      go_wp2_with (at_builtin; refine wpList_append_int (w := wr.alloc _) rfl _ _ rfl w.heap.size _ (P k) rfl ?y1 wr.heap.size 1 (-1) rfl ?y2 ?y3 ?y4 ?_)
      case y1 => exact HW.out.alloc _
      case y2 => exact cell_new _ _ _
      case y3 => omega
      case y4 => simp; omega
      intro v2 w2 hown2 _ hb2
      have HW2 := Lib.hid (OwnE.cast (show P k ++ [-1] = P (k + 1) by rw [HN.out, HF.out]) hown2)
      have HB2 := Lib.hid ((HG.out.alloc hsz _).trans hb2)
      clear hown2 hb2
      go_wp2_with fail
      go_roundw
      case rel => exact ⟨k + 1, by omega, by go_num, by rw [HS.out]; go_num, by rw [HS.out]; go_num, HW2.out, HB2.out⟩
      case measure => simp [intOf]; omega
    · have HS : Hid (q (k + 1) = q k) := Lib.hid (by rw [HCS.out, if_neg hin]; rfl)
      have HF := Lib.hid (HOUT.out k hin)
      by_cases hql : q k < l.length
      · have h2 : l.getD (q k) 0 ≠ (k : Int) := fun e => hin ((HAT.out k).1 (by rw [HAD.out _ hql, e]))
        obtain ⟨b, off, rfl, hb, hc⟩ := Ints.cells (HT.out.below HG.out) hql
        have ck := hc (q k) hql
        have t1 : decide ((q k : Int) < (l.length : Int)) = true := decide_eq_true (by omega)
        have t3 := ne_beq h2
        clear hin hc h2
        generalize q k = y at *
        generalize l.getD y 0 = x at *
        go_wp2_with (at_builtin; refine wpList_append_int (w := wr.alloc _) rfl _ _ rfl w.heap.size _ (P k) rfl ?y1 wr.heap.size 1 ((k : Int) - (y : Int)) rfl ?y2 ?y3 ?y4 ?_)
        case y1 => exact HW.out.alloc _
        case y2 => exact cell_new _ _ _
        case y3 => omega
        case y4 => simp; omega
        intro v2 w2 hown2 _ hb2
        have HW2 := Lib.hid (OwnE.cast (show P k ++ [(k : Int) - (y : Int)] = P (k + 1) by rw [HN.out, HF.out]) hown2)
        have HB2 := Lib.hid ((HG.out.alloc hsz _).trans hb2)
        clear hown2 hb2
        go_wp2_with fail
        go_roundw
        case rel => exact ⟨k + 1, by omega, by go_num, by rw [HS.out], by rw [HS.out]; go_num, HW2.out, HB2.out⟩
        case measure => simp [intOf]; omega
      · have t1 : decide ((q k : Int) < (l.length : Int)) = false := decide_eq_false (by omega)
        have t1' : decide (q k < l.length) = false := decide_eq_false (by omega)
        clear hin hql
        generalize q k = y at *
        go_wp2_with (at_builtin; refine wpList_append_int (w := wr.alloc _) rfl _ _ rfl w.heap.size _ (P k) rfl ?y1 wr.heap.size 1 ((k : Int) - (y : Int)) rfl ?y2 ?y3 ?y4 ?_)
        case y1 => exact HW.out.alloc _
        case y2 => exact cell_new _ _ _
        case y3 => omega
        case y4 => simp; omega
        intro v2 w2 hown2 _ hb2
        have HW2 := Lib.hid (OwnE.cast (show P k ++ [(k : Int) - (y : Int)] = P (k + 1) by rw [HN.out, HF.out]) hown2)
        have HB2 := Lib.hid ((HG.out.alloc hsz _).trans hb2)
        clear hown2 hb2
        go_wp2_with fail
        go_roundw
        case rel => exact ⟨k + 1, by omega, by go_num, by rw [HS.out], by rw [HS.out]; go_num, HW2.out, HB2.out⟩
        case measure => simp [intOf]; omega

end Go.Proofs.Ytiafmhdicgmfaaa
