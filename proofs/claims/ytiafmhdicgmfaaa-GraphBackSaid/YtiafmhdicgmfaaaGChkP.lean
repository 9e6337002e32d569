/-
  Reordering, the program's checks on what is right: checkPermutation, checkReorder. Shuffle of the reference.
-/
import Derived.Test.YtiafmhdicgmfaaaGBkPl
import Derived.Test.YtiafmhdicgmfaaaGDr
import Derived.Test.YtiafmhdicgmfaaaGChk
import Derived.Test.YtiafmhdicgmfaaaGLawU
namespace Go.Proofs.Ytiafmhdicgmfaaa
open Go.RowKit

theorem perm_not_before {l : List Int} {n k : Nat} (h : PermN l n) (hk : k < n) : ¬ l.getD k 0 ∈ l.take k := by
  intro hm
  have hl := h.len
  obtain ⟨i, hi, e⟩ := List.mem_iff_getElem.1 hm
  rw [List.length_take] at hi
  rw [List.getElem_take] at e
  have := h.inj (i := i) (j := k) (by omega) hk (by rw [getD_eq (by omega)]; exact e)
  omega

set_option maxRecDepth 100000 in
set_option maxHeartbeats 2000000 in
theorem checkPerm_any (l : List Int) (n : Nat) (A : Option Addr) (B c : Nat) (w : World) (hp : PermN l n) (hn : n ≤ 1000) (hc : l.length ≤ c ∧ c ≤ maxLen) (hA : Ints w B A l) :
    Calls Try.prog 84 #[.slice A l.length c] w fun e w' => e = .returned (.int .i64 0) ∧ w = w' := by
  have hl := hp.len
  have HT := Lib.hid hA
  have HI : Hid (∀ k, k < n → ∀ W, Calls Try.prog 43 #[.int .i64 (l.getD k 0), .int .i64 (l.length : Int)] W fun e w' => e = .returned (.bool true) ∧ W = w') := Lib.hid fun k hk W => by
    have h := isIndex_any (l.getD k 0) l.length W
    rw [idxB_iff.2 (by have := hp.at hk; omega)] at h
    exact h
  have HC : Hid (∀ k, k < n → Calls Try.prog 65 #[.slice A k c, .int .i64 (l.getD k 0)] w fun e w' => e = .returned (.bool false) ∧ w = w') := Lib.hid fun k hk => by
    have h := contains_any (l.take k) (l.getD k 0) A B c w (by rw [List.length_take]; unfold maxLen; omega) (hA.take k)
    rw [decide_eq_false (perm_not_before hp hk)] at h
    have e : (l.take k).length = k := by rw [List.length_take]; omega
    rw [e] at h
    exact h
  obtain ⟨hc1, hc2⟩ := hc
  unfold maxLen at hc2
  have hle : l.length ≤ 1000 := by omega
  have HL := Lib.hid hl
  clear hA hp hl
  go_enter Try.func84, Try.ntmps84
  go_wp2_with fail
  go_loop [9] (fun i => ∃ k : Nat, k ≤ l.length ∧ i = .int .i64 k) (fun i => l.length - (intOf i).toNat)
  case atStart => exact ⟨0, Nat.zero_le _, rfl⟩
  case round =>
    obtain ⟨k, hk, rfl⟩ := hrel
    by_cases hlt : k < l.length
    · obtain ⟨b, off, rfl, hb, hcc⟩ := Ints.cells HT.out hlt
      have ck := hcc k hlt
      have HIk := Lib.hid (HI.out k (by have := HL.out; omega))
      clear hcc
      generalize l.getD k 0 = x at *
      go_wp2_with fail
      refine (HIk.out _).mono ?_
      rintro e w' ⟨rfl, rfl⟩
      go_wp2_with fail
      go_round
      case rel => exact ⟨k + 1, by omega, by go_num⟩
      case measure => simp [intOf]; omega
    · clear HI
      go_wp2_with fail
      clear hlt hk
      go_loop [21] (fun i => ∃ k : Nat, k ≤ l.length ∧ i = .int .i64 k) (fun i => l.length - (intOf i).toNat)
      case atStart => exact ⟨0, Nat.zero_le _, rfl⟩
      case round =>
        obtain ⟨k, hk, rfl⟩ := hrel
        by_cases hlt : k < l.length
        · obtain ⟨b, off, rfl, hb, hcc⟩ := Ints.cells HT.out hlt
          have ck := hcc k hlt
          have HCk := Lib.hid (HC.out k (by have := HL.out; omega))
          have i0 : (0 : Int) ≤ (k : Int) := by omega
          have i1 : (k : Int) ≤ (c : Int) := by omega
          have i2 : ((k : Int)).toNat = k := by omega
          have i3 : (k : Int) < (l.length : Int) := by omega
          clear hcc
          generalize l.getD k 0 = x at *
          go_wp2_with fail
          refine HCk.out.mono ?_
          rintro e w' ⟨rfl, rfl⟩
          go_wp2_with fail
          go_round
          case rel => exact ⟨k + 1, by omega, by go_num⟩
          case measure => simp [intOf]; omega
        · go_wp2_with fail
          go_ret
          exact ⟨rfl, rfl⟩

/-! checkReorder -/
/-- two boxes, a graph's and a morphism's -/
structure RB (w : World) (An : Option Addr) (cn : Nat) (Ae : Option Addr) (ce : Nat) (g : Gr) (Bn : Option Addr) (dn : Nat) (Be : Option Addr) (de : Nat) (m : Mo) (W : World) : Prop where
  b0 : GB w.heap.size An cn Ae ce g W
  b1 : MB (w.heap.size + 1) Bn dn Be de m W
  be : Below w.heap.size w W
theorem RB.up {w : World} {An : Option Addr} {cn : Nat} {Ae : Option Addr} {ce : Nat} {g : Gr} {Bn : Option Addr} {dn : Nat} {Be : Option Addr} {de : Nat} {m : Mo} {W W' : World} (h : RB w An cn Ae ce g Bn dn Be de m W) (hb : Below W.heap.size W W') : RB w An cn Ae ce g Bn dn Be de m W' := ⟨h.b0.up hb, h.b1.up hb, h.be.trans (hb.mono h.be.size)⟩
theorem RB.start {w : World} {An : Option Addr} {cn : Nat} {Ae : Option Addr} {ce : Nat} {g : Gr} {Bn : Option Addr} {dn : Nat} {Be : Option Addr} {de : Nat} {m : Mo} (h1 : GrAt w An cn Ae ce g) (h2 : MoAt w Bn dn Be de m) :
    RB w An cn Ae ce g Bn dn Be de m ((w.alloc (.cells #[.slice An g.ns.length cn, .slice Ae g.es.length ce] 25 (0, 0))).alloc (.cells #[.slice Bn m.ns.length dn, .slice Be m.es.length de] 40 (0, 0))) := by
  obtain ⟨q1, q2, q3⟩ := boxes_gm h1 h2 rfl
  exact ⟨q1, q2, q3⟩

set_option maxRecDepth 100000 in
set_option maxHeartbeats 2000000 in
theorem checkReo_any (g : Gr) (m : Mo) (An : Option Addr) (cn : Nat) (Ae : Option Addr) (ce : Nat) (Bn : Option Addr) (dn : Nat) (Be : Option Addr) (de : Nat) (w : World) (hv : validE g = 0) (p1 : PermN m.ns g.ns.length) (p2 : PermN m.es g.es.length) (hT : GrAt w An cn Ae ce g) (hM : MoAt w Bn dn Be de m) :
    Calls Try.prog 63 #[gval An g.ns.length cn Ae g.es.length ce, gval Bn m.ns.length dn Be m.es.length de] w fun e w' => e = .returned (.int .i64 0) ∧ Below w.heap.size w w' := by
  have HS := Lib.hid (RB.start hT hM)
  have l1 := p1.len
  have l2 := p2.len
  obtain ⟨v1, v2, _⟩ := valid_zero hv
  have HVA : Hid (∀ W, RB w An cn Ae ce g Bn dn Be de m W → Calls Try.prog 15 #[gval An g.ns.length cn Ae g.es.length ce] W fun e w' => e = .returned (.int .i64 0) ∧ Below W.heap.size W w') := Lib.hid fun W h => by
    have := validP_any g An cn Ae ce W h.b0.gr
    rw [hv] at this
    exact this
  have HP1 := Lib.hid (fun W (h : RB w An cn Ae ce g Bn dn Be de m W) => checkPerm_any m.ns g.ns.length Bn _ dn W p1 (by omega) h.b1.mo.cn h.b1.mo.ns)
  have HP2 := Lib.hid (fun W (h : RB w An cn Ae ce g Bn dn Be de m W) => checkPerm_any m.es g.es.length Be _ de W p2 (by omega) h.b1.mo.ce h.b1.mo.es)
  have t1 : ((m.ns.length : Int) != (g.ns.length : Int)) = false := by rw [l1]; simp
  have t2 : ((m.es.length : Int) != (g.es.length : Int)) = false := by rw [l2]; simp
  clear hT hM hv p1 p2 l1 l2
  go_enter Try.func63, Try.ntmps63
  go_wp2_with fail
  refine (HVA.out _ HS.out).mono ?_
  rintro e w1 ⟨rfl, hb1⟩
  have HS1 := Lib.hid (HS.out.up hb1)
  clear hb1 HS HVA
  obtain ⟨c0, c1⟩ := HS1.out.b0.cells
  obtain ⟨c2, c3⟩ := HS1.out.b1.cells
  have z0 := HS1.out.b0.lt
  have z1 := HS1.out.b1.lt
  go_wp2_with fail
  refine (HP1.out _ HS1.out).mono ?_
  rintro e w2 ⟨rfl, rfl⟩
  go_wp2_with fail
  refine (HP2.out _ HS1.out).mono ?_
  rintro e w3 ⟨rfl, rfl⟩
  go_wp2_with fail
  go_ret
  exact ⟨rfl, HS1.out.be⟩

end Go.Proofs.Ytiafmhdicgmfaaa
