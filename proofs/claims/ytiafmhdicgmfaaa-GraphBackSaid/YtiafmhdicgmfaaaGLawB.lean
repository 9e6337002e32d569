/-
  Graphs: GraphBack. (Printed by mklawb.py.)
-/
import Derived.Test.YtiafmhdicgmfaaaGLawP
import Derived.Test.YtiafmhdicgmfaaaGReo
namespace Go.Proofs.Ytiafmhdicgmfaaa
open Go.RowKit

/-- a graph in a box, and the world that was -/
structure LB (w : World) (gb : Nat) (An : Option Addr) (cn : Nat) (Ae : Option Addr) (ce : Nat) (g : Gr) (W : World) : Prop where
  g : GB gb An cn Ae ce g W
  be : Below w.heap.size w W
theorem LB.up {w : World} {gb : Nat} {An : Option Addr} {cn : Nat} {Ae : Option Addr} {ce : Nat} {g : Gr} {W W' : World} (h : LB w gb An cn Ae ce g W) (hb : Below W.heap.size W W') : LB w gb An cn Ae ce g W' := ⟨h.g.up hb, h.be.trans (hb.mono h.be.size)⟩
/-- a graph's box and a morphism's -/
structure LM (w : World) (gb : Nat) (An : Option Addr) (cn : Nat) (Ae : Option Addr) (ce : Nat) (g : Gr) (mb : Nat) (Bn : Option Addr) (dn : Nat) (Be : Option Addr) (de : Nat) (m : Mo) (W : World) : Prop where
  g : GB gb An cn Ae ce g W
  m : MB mb Bn dn Be de m W
  be : Below w.heap.size w W
theorem LM.up {w : World} {gb : Nat} {An : Option Addr} {cn : Nat} {Ae : Option Addr} {ce : Nat} {g : Gr} {mb : Nat} {Bn : Option Addr} {dn : Nat} {Be : Option Addr} {de : Nat} {m : Mo} {W W' : World} (h : LM w gb An cn Ae ce g mb Bn dn Be de m W) (hb : Below W.heap.size W W') : LM w gb An cn Ae ce g mb Bn dn Be de m W' := ⟨h.g.up hb, h.m.up hb, h.be.trans (hb.mono h.be.size)⟩
/-- those two, the way back and the other graph -/
structure LK (w : World) (gb : Nat) (An : Option Addr) (cn : Nat) (Ae : Option Addr) (ce : Nat) (g : Gr) (mb : Nat) (Bn : Option Addr) (dn : Nat) (Be : Option Addr) (de : Nat) (m : Mo) (bk : Nat) (gs gt : Addr) (bm : Mo) (hb : Nat) (Hn : Option Addr) (hn : Nat) (He : Option Addr) (he : Nat) (h : Gr) (W : World) : Prop where
  l : LM w gb An cn Ae ce g mb Bn dn Be de m W
  b : MB bk (some gs) g.ns.length (some gt) g.es.length bm W
  h : GB hb Hn hn He he h W
theorem LK.up {w : World} {gb : Nat} {An : Option Addr} {cn : Nat} {Ae : Option Addr} {ce : Nat} {g : Gr} {mb : Nat} {Bn : Option Addr} {dn : Nat} {Be : Option Addr} {de : Nat} {m : Mo} {bk : Nat} {gs gt : Addr} {bm : Mo} {hb : Nat} {Hn : Option Addr} {hn : Nat} {He : Option Addr} {he : Nat} {h : Gr} {W W' : World} (k : LK w gb An cn Ae ce g mb Bn dn Be de m bk gs gt bm hb Hn hn He he h W) (hq : Below W.heap.size W W') : LK w gb An cn Ae ce g mb Bn dn Be de m bk gs gt bm hb Hn hn He he h W' := ⟨k.l.up hq, k.b.up hq, k.h.up hq⟩
/-- the values of the region that asks for the other graph's edges of a node -/
def IV (G : Value) (g6 : Nat) (N : Value) (cb co i l1 l2 : Nat) (p : Int) : Nat → Value → World → Prop
  | 0, r, _ => r = G
  | 1, r, _ => r = .pointer (some ⟨g6, 0, none⟩)
  | 2, r, _ => r = .int .i64 (i : Int)
  | 3, r, _ => r = N
  | 4, r, _ => r = .pointer (some ⟨cb, co, none⟩)
  | 5, r, _ => r = .int .i64 p
  | 6, r, _ => ∃ a b a' b', r = .tuple #[.slice a l1 b, .slice a' l2 b', .int .i64 0]
  | 7, r, _ => ∃ a b a' b', r = .tuple #[.slice a l1 b, .slice a' l2 b', .int .i64 0]
  | 8, r, _ => ∃ a b, r = .slice a l1 b
  | 9, r, _ => ∃ a b, r = .slice a l2 b
  | _, r, _ => r = .int .i64 0
theorem inc_lens (g : Gr) (v : Int) (l1 l2 : Nat) (h0 : incE g v = 0) (h1 : l1 = (incI g v).length) (h2 : l2 = (incO g v).length) (An : Option Addr) (cn : Nat) (Ae : Option Addr) (ce : Nat) (W : World) (hT : GrAt W An cn Ae ce g) :
    Calls Try.prog 27 #[gval An g.ns.length cn Ae g.es.length ce, .int .i64 v] W fun e w' => (∃ v, e = .returned v ∧ ∃ a b a' b', v = .tuple #[.slice a l1 b, .slice a' l2 b', .int .i64 0]) ∧ Below W.heap.size W w' := by
  refine (incP g v An cn Ae ce W hT).mono ?_
  rintro e w' ⟨⟨a, b, rfl, ⟨V1, q1, rfl, _, _⟩, ⟨V2, q2, rfl, _, _⟩⟩, hb⟩
  rw [h0, h1, h2]
  exact ⟨⟨_, rfl, _, _, _, _, rfl⟩, hb⟩
theorem IV.up {G : Value} {g6 : Nat} {N : Value} {cb co i l1 l2 : Nat} {p : Int} (j : Nat) (v : Value) (W W' : World) (h : IV G g6 N cb co i l1 l2 p j v W) (_ : Below W.heap.size W W') : IV G g6 N cb co i l1 l2 p j v W' := by
  unfold IV at h ⊢
  split at h <;> exact h
/-- what the shuffles' region has for values -/
def BV (base gb : Nat) (N E C : Value) (n k : Nat) : Nat → Value → World → Prop
  | 0, r, _ => r = .pointer (some ⟨gb, 0, none⟩)
  | 1, r, _ => r = N
  | 2, r, _ => r = .int .i64 (n : Int)
  | 3, r, _ => r = C
  | 4, r, _ => r = .pointer (some ⟨gb, 1, none⟩)
  | 5, r, _ => r = E
  | 6, r, _ => r = .int .i64 (k : Int)
  | 7, r, _ => r = C
  | 8, r, W => ∃ s, OwnI W base r s ∧ PermN s n
  | 9, r, W => ∃ s, OwnI W base r s ∧ PermN s k
  | _, r, W => ∃ u v s t, r = .agg #[u, v] ∧ (OwnI W base u s ∧ PermN s n) ∧ (OwnI W base v t ∧ PermN t k)
theorem BV.up {base gb : Nat} {N E C : Value} {n k : Nat} (j : Nat) (v : Value) (W W' : World) (h : BV base gb N E C n k j v W) (hb : Below W.heap.size W W') : BV base gb N E C n k j v W' := by
  unfold BV at h ⊢
  split at h <;> first
    | exact h
    | (obtain ⟨s, h1, h2⟩ := h; exact ⟨s, OwnE.below h1 hb (Nat.le_refl _), h2⟩)
    | (obtain ⟨u, v, s, t, e, ⟨h1, h2⟩, h3, h4⟩ := h; exact ⟨u, v, s, t, e, ⟨OwnE.below h1 hb (Nat.le_refl _), h2⟩, OwnE.below h3 hb (Nat.le_refl _), h4⟩)

set_option maxRecDepth 100000 in
set_option maxHeartbeats 8000000 in
theorem lawBack (x : Dr) (An : Option Addr) (cn : Nat) (Ae : Option Addr) (ce : Nat) (codes : List Nat) (Ac : Option Addr) (c : Nat) (w : World) (hA : DrAt w An cn Ae ce x) (hC : Reads EBy w w.heap.size Ac codes ∧ ∀ i, codes.getD i 0 < 256) (hlc : codes.length ≤ maxLen) :
    Calls Try.prog 9 #[gval An x.ns.length cn Ae x.es.length ce, .slice Ac codes.length c] w fun e w' => e = .returned (.bool true) ∧ Below w.heap.size w w' := by
  have HD0 := Lib.hid (show DB w.heap.size An cn Ae ce x (w.alloc (.cells #[.slice An x.ns.length cn, .slice Ae x.es.length ce] 58 (0, 0))) from ⟨heap_alloc_new _ _, hA.up (below_a _ _)⟩)
  have HB0 := Lib.hid (below_a w (.cells #[.slice An x.ns.length cn, .slice Ae x.es.length ce] 58 (0, 0)))
  have HMX := Lib.hid (fun W (h : DrAt W An cn Ae ce x) => made_any x An cn Ae ce W h)
  have hv := made_valid x
  have hgl := made_lens x
  have hd1 := drN_le x
  have hd2 := drM_le x
  have lx1 := Nat.le_trans hA.cn.1 hA.cn.2
  have lx2 := Nat.le_trans hA.ce.1 hA.ce.2
  unfold maxLen at lx1 lx2 hlc
  have HSH := Lib.hid (fun n W (h1 : n ≤ 1000) (h : Below w.heap.size w W) => shuf_any n codes Ac c W h1 hC.2 (by unfold maxLen; omega) ((Reads.below hC.1 h).mono h.size))
  clear hA hC
  have ln : (madeG x).ns.length ≤ 8 := by omega
  have lk : (madeG x).es.length ≤ 10 := by omega
  clear hgl hd1 hd2
  generalize madeG x = g at *
  have HV := Lib.hid hv
  clear hv
  go_enter Try.func9, Try.ntmps9
  go_wp2_with fail
  refine (awake_any _).mono ?_
  rintro e w1 ⟨rfl, hb1⟩
  have HD1 := Lib.hid (HD0.out.up hb1)
  have HB1 := Lib.hid (HB0.out.trans (hb1.mono HB0.out.size))
  clear hb1 HD0 HB0
  have HAG : Hid (∀ W, Below w.heap.size w W → Calls Try.prog 10 #[] W fun e w' => e = .returned (.bool true) ∧ Below w.heap.size w w') := Lib.hid fun W h => (awake_any W).mono fun e w' ⟨h1, h2⟩ => ⟨h1, h.trans (h2.mono h.size)⟩
  obtain ⟨c0, c1⟩ := HD1.out.box.cells
  have z0 := heap_lt HD1.out.box
  by_cases hq : x.ns.length ≤ 8 ∧ x.es.length ≤ 10 ∧ codes.length ≤ 20
  case neg =>
    have hd : decide ((8 : Int) < (x.ns.length : Int)) = true ∨ (decide ((8 : Int) < (x.ns.length : Int)) = false ∧ decide ((10 : Int) < (x.es.length : Int)) = true) ∨ (decide ((8 : Int) < (x.ns.length : Int)) = false ∧ decide ((10 : Int) < (x.es.length : Int)) = false ∧ decide ((20 : Int) < (codes.length : Int)) = true) := by
      by_cases h1 : x.ns.length ≤ 8
      · refine .inr ?_
        by_cases h2 : x.es.length ≤ 10
        · exact .inr ⟨decide_eq_false (by omega), decide_eq_false (by omega), decide_eq_true (by omega)⟩
        · exact .inl ⟨decide_eq_false (by omega), decide_eq_true (by omega)⟩
      · exact .inl (decide_eq_true (by omega))
    clear hq
    rcases hd with t1 | ⟨t1, t2⟩ | ⟨t1, t2, t3⟩
    all_goals
      go_wp2_with fail
      refine (HAG.out _ HB1.out).mono ?_
      rintro e w3 ⟨rfl, hb3⟩
      have HBF := Lib.hid hb3
      clear hb3
      go_wp2_with fail
      go_ret
      exact ⟨rfl, HBF.out⟩
  obtain ⟨q1, q2, q3⟩ := hq
  have t1 : decide ((8 : Int) < (x.ns.length : Int)) = false := decide_eq_false (by omega)
  have t2 : decide ((10 : Int) < (x.es.length : Int)) = false := decide_eq_false (by omega)
  have t3 : decide ((20 : Int) < (codes.length : Int)) = false := decide_eq_false (by omega)
  clear q1 q2 q3 HAG
  go_wp2_with fail
  refine (HMX.out _ HD1.out.dr).mono ?_
  rintro e w2 ⟨⟨v, rfl, ⟨Gn, gn, Ge, ge, rfl, hG⟩⟩, hb2⟩
  have HS0 := Lib.hid (show LB w w2.heap.size Gn gn Ge ge g _ from ⟨GB.start hG, (HB1.out.trans (hb2.mono HB1.out.size)).trans ((below_a w2 _).mono (Nat.le_trans HB1.out.size hb2.size))⟩)
  clear hb2 hG HD1 HB1 HMX c0 c1 z0 t1 t2 t3
  go_wp2_with fail
  generalize w2.alloc (.cells #[.slice Gn g.ns.length gn, .slice Ge g.es.length ge] 25 (0, 0)) = w3 at *
  generalize w2.heap.size = gb at *
  refine wp_region_noPanic ?_
  refine wp_region_held_drew (S := LB w gb Gn gn Ge ge g) (by kernel_rfl) (HS0.out.up (below_d _)) (fun hHeld => ?_)
  refine wpAnyH_act (fun a0 ha0 => ?_)
  have ea1 : a0.eval (.tmp 1) = .slice Ac codes.length c := by rw [ha0]; rfl
  have ea5 : a0.eval (.tmp 5) = .pointer (some ⟨gb, 0, none⟩) := by rw [ha0]; rfl
  have hsz0 : a0.tmps.size = 159 := by rw [ha0]; rfl
  refine chain_region (LB w gb Gn gn Ge ge g) (BV w3.drew.heap.size gb (.slice Gn g.ns.length gn) (.slice Ge g.es.length ge) (.slice Ac codes.length c) g.ns.length g.es.length) a0 _ [0, 1, 2, 3, 5, 6, 7, 8, 4, 9, 10] [45, 46, 47, 48, 50, 51, 52, 53, 49, 54, 55] [true, true, true, true, true, true, true, true, false, false, true]
    [⟨11, 6, .cells #[.slice none 0 0, .slice none 0 0] 40 (0, 0)⟩]
    _ 1 rfl (by decide) (by decide) (by kernel_rfl) (fun _ _ _ _ _ h => h) (by kernel_rfl) ?al (fun W W' h hb => h.up hb) BV.up ?step ?fin hHeld _ rfl
  case al =>
    intro x hx
    simp only [List.mem_cons, List.not_mem_nil, or_false] at hx
    subst hx
    refine ⟨_, rfl, rfl, fun A W => ⟨rfl, ?_⟩⟩
    go_simp
  case step =>
    intro c i d rs bs W h1 h2 h3 h4 hS hF hsz
    have hc : c < 11 := (List.getElem?_eq_some_iff.1 h3).1
    have hc : c = 0 ∨ c = 1 ∨ c = 2 ∨ c = 3 ∨ c = 4 ∨ c = 5 ∨ c = 6 ∨ c = 7 ∨ c = 8 ∨ c = 9 ∨ c = 10 := by omega
    clear h2
    rcases hc with rfl | rfl | rfl | rfl | rfl | rfl | rfl | rfl | rfl | rfl | rfl
    · simp only [List.getElem?_cons_zero, Option.some.injEq] at h3 h4
      subst h3 h4
      match rs, h1, hF with
      | [], _, hF =>
        clear hF
        show ChStep _ _ _ _ _ true _ _ _ _
        generalize hA : pup _ _ bs = A
        have ev0 : A.eval (.tmp 5) = (.pointer (some ⟨gb, 0, none⟩)) := ev_old hA ea5 rfl rfl
        clear hA
        refine ChStep.pure (o := _) (v := (.pointer (some ⟨gb, 0, none⟩))) rfl rfl rfl (fun W2 hS2 => ?_) rfl
        have ev0 := ev_raw ev0
        go_simp
    · simp only [List.getElem?_cons_zero, List.getElem?_cons_succ, Option.some.injEq] at h3 h4
      subst h3 h4
      match rs, h1, hF with
      | [r0], _, hF =>
        have k0 := hF 0 _ rfl
        obtain rfl : r0 = (.pointer (some ⟨gb, 0, none⟩)) := k0
        clear hF
        show ChStep _ _ _ _ _ true _ _ _ _
        generalize hA : pup _ _ bs = A
        have ev0 : A.eval (.tmp 45) = (.pointer (some ⟨gb, 0, none⟩)) := ev_new hA 0 (by decide) rfl rfl (by omega) rfl
        clear hA
        refine ChStep.pure (o := _) (v := (.slice Gn g.ns.length gn)) rfl rfl rfl (fun W2 hS2 => ?_) rfl
        obtain ⟨q0, q1⟩ := hS2.g.cells
        have ev0 := ev_raw ev0
        go_simp
    · simp only [List.getElem?_cons_zero, List.getElem?_cons_succ, Option.some.injEq] at h3 h4
      subst h3 h4
      match rs, h1, hF with
      | [r0, r1], _, hF =>
        have k1 := hF 1 _ rfl
        obtain rfl : r1 = (.slice Gn g.ns.length gn) := k1
        clear hF
        show ChStep _ _ _ _ _ true _ _ _ _
        generalize hA : pup _ _ bs = A
        have ev0 : A.eval (.tmp 46) = (.slice Gn g.ns.length gn) := ev_new hA 1 (by decide) rfl rfl (by omega) rfl
        clear hA
        refine ChStep.pure (o := _) (v := (.int .i64 (g.ns.length : Int))) rfl rfl rfl (fun W2 hS2 => ?_) rfl
        have ev0 := ev_raw ev0
        go_simp
    · simp only [List.getElem?_cons_zero, List.getElem?_cons_succ, Option.some.injEq] at h3 h4
      subst h3 h4
      match rs, h1, hF with
      | [r0, r1, r2], _, hF =>
        clear hF
        show ChStep _ _ _ _ _ true _ _ _ _
        generalize hA : pup _ _ bs = A
        have ev0 : A.eval (.tmp 1) = (.slice Ac codes.length c) := ev_old hA ea1 rfl rfl
        clear hA
        refine ChStep.pure (o := _) (v := (.slice Ac codes.length c)) rfl rfl rfl (fun W2 hS2 => ?_) rfl
        have ev0 := ev_raw ev0
        go_simp
    · simp only [List.getElem?_cons_zero, List.getElem?_cons_succ, Option.some.injEq] at h3 h4
      subst h3 h4
      match rs, h1, hF with
      | [r0, r1, r2, r3], _, hF =>
        clear hF
        show ChStep _ _ _ _ _ true _ _ _ _
        generalize hA : pup _ _ bs = A
        have ev0 : A.eval (.tmp 5) = (.pointer (some ⟨gb, 0, none⟩)) := ev_old hA ea5 rfl rfl
        clear hA
        refine ChStep.pure (o := _) (v := (.pointer (some ⟨gb, 1, none⟩))) rfl rfl rfl (fun W2 hS2 => ?_) rfl
        have ev0 := ev_raw ev0
        go_simp
    · simp only [List.getElem?_cons_zero, List.getElem?_cons_succ, Option.some.injEq] at h3 h4
      subst h3 h4
      match rs, h1, hF with
      | [r0, r1, r2, r3, r4], _, hF =>
        have k4 := hF 4 _ rfl
        obtain rfl : r4 = (.pointer (some ⟨gb, 1, none⟩)) := k4
        clear hF
        show ChStep _ _ _ _ _ true _ _ _ _
        generalize hA : pup _ _ bs = A
        have ev0 : A.eval (.tmp 50) = (.pointer (some ⟨gb, 1, none⟩)) := ev_new hA 4 (by decide) rfl rfl (by omega) rfl
        clear hA
        refine ChStep.pure (o := _) (v := (.slice Ge g.es.length ge)) rfl rfl rfl (fun W2 hS2 => ?_) rfl
        obtain ⟨q0, q1⟩ := hS2.g.cells
        have ev0 := ev_raw ev0
        go_simp
    · simp only [List.getElem?_cons_zero, List.getElem?_cons_succ, Option.some.injEq] at h3 h4
      subst h3 h4
      match rs, h1, hF with
      | [r0, r1, r2, r3, r4, r5], _, hF =>
        have k5 := hF 5 _ rfl
        obtain rfl : r5 = (.slice Ge g.es.length ge) := k5
        clear hF
        show ChStep _ _ _ _ _ true _ _ _ _
        generalize hA : pup _ _ bs = A
        have ev0 : A.eval (.tmp 51) = (.slice Ge g.es.length ge) := ev_new hA 5 (by decide) rfl rfl (by omega) rfl
        clear hA
        refine ChStep.pure (o := _) (v := (.int .i64 (g.es.length : Int))) rfl rfl rfl (fun W2 hS2 => ?_) rfl
        have ev0 := ev_raw ev0
        go_simp
    · simp only [List.getElem?_cons_zero, List.getElem?_cons_succ, Option.some.injEq] at h3 h4
      subst h3 h4
      match rs, h1, hF with
      | [r0, r1, r2, r3, r4, r5, r6], _, hF =>
        clear hF
        show ChStep _ _ _ _ _ true _ _ _ _
        generalize hA : pup _ _ bs = A
        have ev0 : A.eval (.tmp 1) = (.slice Ac codes.length c) := ev_old hA ea1 rfl rfl
        clear hA
        refine ChStep.pure (o := _) (v := (.slice Ac codes.length c)) rfl rfl rfl (fun W2 hS2 => ?_) rfl
        have ev0 := ev_raw ev0
        go_simp
    · simp only [List.getElem?_cons_zero, List.getElem?_cons_succ, Option.some.injEq] at h3 h4
      subst h3 h4
      match rs, h1, hF with
      | [r0, r1, r2, r3, r4, r5, r6, r7], _, hF =>
        have k2 := hF 2 _ rfl
        have k3 := hF 3 _ rfl
        obtain rfl : r2 = (.int .i64 (g.ns.length : Int)) := k2
        obtain rfl : r3 = (.slice Ac codes.length c) := k3
        clear hF
        show ChStep _ _ _ _ _ false _ _ _ _
        generalize hA : pup _ _ bs = A
        have ev0 : A.eval (.tmp 47) = (.int .i64 (g.ns.length : Int)) := ev_new hA 2 (by decide) rfl rfl (by omega) rfl
        have ev1 : A.eval (.tmp 48) = (.slice Ac codes.length c) := ev_new hA 3 (by decide) rfl rfl (by omega) rfl
        clear hA
        refine ChStep.call (o := _) (f := 36) (xs := _) (ts := _) (args := #[(.int .i64 (g.ns.length : Int)), (.slice Ac codes.length c)]) rfl rfl rfl rfl (by simp only [List.map_toArray, List.map_cons, List.map_nil, ev0, ev1]) (by kernel_rfl) ?_
        exact (HSH.out g.ns.length W (by omega) hS.be).mono fun e w2 ⟨⟨v, s, he, h1, h2⟩, hb⟩ => ⟨⟨v, he, s, OwnE.mono h1 hsz, h2⟩, hb⟩
    · simp only [List.getElem?_cons_zero, List.getElem?_cons_succ, Option.some.injEq] at h3 h4
      subst h3 h4
      match rs, h1, hF with
      | [r0, r1, r2, r3, r4, r5, r6, r7, r8], _, hF =>
        have k6 := hF 6 _ rfl
        have k7 := hF 7 _ rfl
        obtain rfl : r6 = (.int .i64 (g.es.length : Int)) := k6
        obtain rfl : r7 = (.slice Ac codes.length c) := k7
        clear hF
        show ChStep _ _ _ _ _ false _ _ _ _
        generalize hA : pup _ _ bs = A
        have ev0 : A.eval (.tmp 52) = (.int .i64 (g.es.length : Int)) := ev_new hA 6 (by decide) rfl rfl (by omega) rfl
        have ev1 : A.eval (.tmp 53) = (.slice Ac codes.length c) := ev_new hA 7 (by decide) rfl rfl (by omega) rfl
        clear hA
        refine ChStep.call (o := _) (f := 36) (xs := _) (ts := _) (args := #[(.int .i64 (g.es.length : Int)), (.slice Ac codes.length c)]) rfl rfl rfl rfl (by simp only [List.map_toArray, List.map_cons, List.map_nil, ev0, ev1]) (by kernel_rfl) ?_
        exact (HSH.out g.es.length W (by omega) hS.be).mono fun e w2 ⟨⟨v, s, he, h1, h2⟩, hb⟩ => ⟨⟨v, he, s, OwnE.mono h1 hsz, h2⟩, hb⟩
    · simp only [List.getElem?_cons_zero, List.getElem?_cons_succ, Option.some.injEq] at h3 h4
      subst h3 h4
      match rs, h1, hF with
      | [r0, r1, r2, r3, r4, r5, r6, r7, r8, r9], _, hF =>
        have k8 := hF 8 _ rfl
        have k9 := hF 9 _ rfl
        obtain ⟨s, o1, o2⟩ := k8
        obtain ⟨t, o3, o4⟩ := k9
        obtain ⟨A1, c1, rfl⟩ := OwnE.slice o1
        obtain ⟨A2, c2, rfl⟩ := OwnE.slice o3
        clear hF
        show ChStep _ _ _ _ _ true _ _ _ _
        generalize hA : pup _ _ bs = A
        have ev0 : A.eval (.tmp 49) = (.slice A1 s.length c1) := ev_new hA 8 (by decide) rfl rfl (by omega) rfl
        have ev1 : A.eval (.tmp 54) = (.slice A2 t.length c2) := ev_new hA 9 (by decide) rfl rfl (by omega) rfl
        clear hA
        refine ChStep.pure (o := _) (v := (.agg #[.slice A1 s.length c1, .slice A2 t.length c2])) rfl rfl rfl (fun W2 hS2 => ?_) ⟨_, _, s, t, rfl, ⟨o1, o2⟩, o3, o4⟩
        have ev0 := ev_raw ev0
        have ev1 := ev_raw ev1
        go_simp
  case fin =>
    intro rs ks W h1 h2 hS hF hok hbW
    match rs, h1, hF with
    | [r0, r1, r2, r3, r4, r5, r6, r7, r8, r9, r10], _, hF =>
      obtain ⟨u, v, s, t, rfl, ⟨o1, o2⟩, o3, o4⟩ := hF 10 _ rfl
      obtain ⟨A1, k1, rfl, R1, hk1⟩ := OwnE.reads_cap o1
      obtain ⟨A2, k2, rfl, R2, hk2⟩ := OwnE.reads_cap o3
      have hM : MoAt W A1 k1 A2 k2 ⟨s, t⟩ := ⟨R1, R2, hk1, hk2⟩
      have HP1 := Lib.hid o2
      have HP2 := Lib.hid o4
      clear hF o1 o3 o2 o4 R1 R2 hk1 hk2
      match ks, h2, hok with
      | [g6], _, hok =>
        obtain ⟨p1, l1, _⟩ := hok.1 g6 rfl
        have p1 : BoxIs g6 (.slice none 0 0) (.slice none 0 0) 40 W := p1
        have l1 : w3.heap.size ≤ g6 := l1
        have hgb := HS0.out.g.lt
        have hwb := HS0.out.be.size
        have U1 := Lib.hid (show LM w gb Gn gn Ge ge g g6 A1 k1 A2 k2 ⟨s, t⟩ _ from ⟨hS.g.set2 (p := A1) (q := s.length) (r := k1) p1 (by omega) (.slice A2 t.length k2), MB.store hM p1, (hS.be.setCell (p := ⟨g6, 0, none⟩) (show w.heap.size ≤ g6 by omega) _).setCell (p := ⟨g6, 1, none⟩) (show w.heap.size ≤ g6 by omega) _⟩)
        obtain ⟨q0, q1⟩ := p1.cells
        have f0 := p1.free 0
        have f1 := p1.free 1
        subst ha0
        simp only [pud, pup, List.map_cons, List.map_nil, Act.put, List.setIfInBounds_toArray, List.set_cons_zero, List.set_cons_succ]
        clear hM hS hbW hHeld ea1 ea5 hsz0 HSH hok p1 l1 hgb hwb HS0
        refine wpAnyH_ready (rs := [12]) (by kernel_rfl) (by simp) ?_
        refine AllReadyH.cons (op_at (r := _) rfl) (fun K hK => ?_) AllReadyH.nil
        go_simp
        refine hK.out _ _ ⟨U1.out.g, U1.out.be⟩ (fun _ => ?_)
        clear hK K q0 q1 f0 f1
        try simp only [Act.put, List.setIfInBounds_toArray, List.set_cons_zero, List.set_cons_succ]
        refine wpAnyH_done (by kernel_rfl) ?_ _
        refine NoPanic.normal ?_
        generalize (W.setCell ⟨g6, 0, none⟩ (.slice A1 s.length k1)).setCell ⟨g6, 1, none⟩ (.slice A2 t.length k2) = w4 at *
        obtain ⟨m, hms, hmt, hLM⟩ : ∃ m : Mo, m.ns = s ∧ m.es = t ∧ LM w gb Gn gn Ge ge g g6 A1 k1 A2 k2 m w4 := ⟨⟨s, t⟩, rfl, rfl, U1.out⟩
        subst hms hmt
        have HL4 := Lib.hid hLM
        clear U1 hLM
        have HX := Lib.hid (fun W (h : Below w4.heap.size w4 W) => HL4.out.up h)
        obtain ⟨c0, c1⟩ := HL4.out.g.cells
        have y0 := HL4.out.g.lt
        go_upto_region 5 with (fail)
        go_cut [7] (fun u wx => ∃ bk gs gt, u = .pointer (some ⟨bk, 0, none⟩) ∧ BoxIs bk (.slice (some ⟨gs, 0, none⟩) g.ns.length g.ns.length) (.slice (some ⟨gt, 0, none⟩) g.es.length g.es.length) 40 wx ∧ OwnI wx w4.heap.size (.slice (some ⟨gs, 0, none⟩) g.ns.length g.ns.length) (List.replicate g.ns.length 0) ∧ OwnI wx w4.heap.size (.slice (some ⟨gt, 0, none⟩) g.es.length g.es.length) (List.replicate g.es.length 0) ∧ gs ≠ gt ∧ w4.heap.size ≤ bk ∧ w4.heap.size ≤ gs ∧ w4.heap.size ≤ gt ∧ Below w4.heap.size w4 wx)
        case first =>
          go_wp2_with fail
          clear c0 c1 y0
          refine wp_region_noPanic ?_
          refine wp_region_held_drew (S := fun W => Below w4.heap.size w4 W) (by kernel_rfl) (below_d w4) (fun hHeld => ?_)
          refine wpAnyH_take (i := 0) (v := ?_) (op_at (r := _) rfl) (by kernel_rfl) (by kernel_rfl) (by kernel_rfl) (fun _ _ _ h => h) (Or.inl ⟨by rfl, ?_⟩) (by assumption) ?_
          rotate_left
          · intro W2 hSw
            obtain ⟨c0, c1⟩ := (HX.out _ hSw).g.cells
            go_simp
            try with_reducible rfl
          try simp only [Act.put, List.setIfInBounds_toArray, List.set_cons_zero, List.set_cons_succ]
          refine wpAnyH_take (i := 1) (v := ?_) (op_at (r := _) rfl) (by kernel_rfl) (by kernel_rfl) (by kernel_rfl) (fun _ _ _ h => h) (Or.inl ⟨by rfl, ?_⟩) (by assumption) ?_
          rotate_left
          · intro W2 hSw
            obtain ⟨c0, c1⟩ := (HX.out _ hSw).g.cells
            go_simp
            try with_reducible rfl
          try simp only [Act.put, List.setIfInBounds_toArray, List.set_cons_zero, List.set_cons_succ]
          refine wpAnyH_take (i := 2) (v := ?_) (op_at (r := _) rfl) (by kernel_rfl) (by kernel_rfl) (by kernel_rfl) (fun _ _ _ h => h) (Or.inl ⟨by rfl, ?_⟩) (by assumption) ?_
          rotate_left
          · intro W2 hSw
            obtain ⟨c0, c1⟩ := (HX.out _ hSw).g.cells
            go_simp
            try with_reducible rfl
          try simp only [Act.put, List.setIfInBounds_toArray, List.set_cons_zero, List.set_cons_succ]
          refine wpAnyH_take (i := 4) (v := ?_) (op_at (r := _) rfl) (by kernel_rfl) (by kernel_rfl) (by kernel_rfl) (fun _ _ _ h => h) (Or.inl ⟨by rfl, ?_⟩) (by assumption) ?_
          rotate_left
          · intro W2 hSw
            obtain ⟨c0, c1⟩ := (HX.out _ hSw).g.cells
            go_simp
            try with_reducible rfl
          try simp only [Act.put, List.setIfInBounds_toArray, List.set_cons_zero, List.set_cons_succ]
          refine wpAnyH_take (i := 5) (v := ?_) (op_at (r := _) rfl) (by kernel_rfl) (by kernel_rfl) (by kernel_rfl) (fun _ _ _ h => h) (Or.inl ⟨by rfl, ?_⟩) (by assumption) ?_
          rotate_left
          · intro W2 hSw
            obtain ⟨c0, c1⟩ := (HX.out _ hSw).g.cells
            go_simp
            try with_reducible rfl
          try simp only [Act.put, List.setIfInBounds_toArray, List.set_cons_zero, List.set_cons_succ]
          refine wpAnyH_take (i := 6) (v := ?_) (op_at (r := _) rfl) (by kernel_rfl) (by kernel_rfl) (by kernel_rfl) (fun _ _ _ h => h) (Or.inl ⟨by rfl, ?_⟩) (by assumption) ?_
          rotate_left
          · intro W2 hSw
            obtain ⟨c0, c1⟩ := (HX.out _ hSw).g.cells
            go_simp
            try with_reducible rfl
          try simp only [Act.put, List.setIfInBounds_toArray, List.set_cons_zero, List.set_cons_succ]
          have B0 := Lib.hid (below_d w4)
          generalize w4.drew = wd at *
          refine wpAnyH_ready (rs := [3, 7, 9]) (by kernel_rfl) (by simp) ?_
          refine AllReadyH.cons (op_at (r := _) rfl) (fun K hK => ?_) (AllReadyH.cons (op_at (r := _) rfl) (fun K hK => ?_) (AllReadyH.cons (op_at (r := _) rfl) (fun K hK => ?_) AllReadyH.nil))
          · skip
            refine step_make_I (by rfl) _ _ (by rfl) w4.heap.size g.ns.length (by rfl) (by rfl) (by omega) B0.out.size ?_
            intro wa1 hn1 hb1 hs1
            have G1 := Lib.hid hn1
            have BB1 := Lib.hid (B0.out.trans (hb1.mono B0.out.size))
            have le1 : w4.heap.size ≤ wd.heap.size := B0.out.size
            clear hn1 hb1 hs1
            refine hK.out _ _ BB1.out (fun hHeld => ?_)
            clear hK K
            try simp only [Act.put, List.setIfInBounds_toArray, List.set_cons_zero, List.set_cons_succ]
            refine wpAnyH_ready (rs := [7, 9]) (by kernel_rfl) (by simp) ?_
            refine AllReadyH.cons (op_at (r := _) rfl) (fun K hK => ?_) (AllReadyH.cons (op_at (r := _) rfl) (fun K hK => ?_) AllReadyH.nil)
            · skip
              have ne2 := Nat.ne_of_lt (OwnE.lt G1.out _ rfl).2
              refine step_make_I (by rfl) _ _ (by rfl) w4.heap.size g.es.length (by rfl) (by rfl) (by omega) BB1.out.size ?_
              intro wa2 hn2 hb2 hs2
              have G2 := Lib.hid hn2
              have BB2 := Lib.hid (BB1.out.trans (hb2.mono BB1.out.size))
              have N2 := Lib.hid (OwnE.below G1.out hb2 (Nat.le_refl _))
              have le2 : w4.heap.size ≤ wa1.heap.size := BB1.out.size
              clear hn2 hb2 hs2
              refine hK.out _ _ BB2.out (fun hHeld => ?_)
              clear hK K
              try simp only [Act.put, List.setIfInBounds_toArray, List.set_cons_zero, List.set_cons_succ]
              refine wpAnyH_take (i := 8) (v := ?_) (op_at (r := _) rfl) (by kernel_rfl) (by kernel_rfl) (by kernel_rfl) (fun _ _ _ h => h) (Or.inl ⟨by rfl, ?_⟩) (by assumption) ?_
              rotate_left
              · intro W2 hSw
                skip
                go_simp
                try with_reducible rfl
              try simp only [Act.put, List.setIfInBounds_toArray, List.set_cons_zero, List.set_cons_succ]
              refine wpAnyH_ready (rs := [9]) (by kernel_rfl) (by simp) ?_
              refine AllReadyH.cons (op_at (r := _) rfl) (fun K hK => ?_) AllReadyH.nil
              · skip
                go_simp
                have hb3 := below_a wa2 (.cells #[.slice none 0 0, .slice none 0 0] 40 (0, 0))
                have G3 := Lib.hid (show BoxIs wa2.heap.size (.slice none 0 0) (.slice none 0 0) 40 (wa2.alloc (.cells #[.slice none 0 0, .slice none 0 0] 40 (0, 0))) from heap_alloc_new _ _)
                have BB3 := Lib.hid (BB2.out.trans (hb3.mono BB2.out.size))
                have N3 := Lib.hid (OwnE.below N2.out hb3 (Nat.le_refl _))
                have E3 := Lib.hid (OwnE.below G2.out hb3 (Nat.le_refl _))
                have le3 : w4.heap.size ≤ wa2.heap.size := BB2.out.size
                clear hb3
                refine hK.out _ _ BB3.out (fun hHeld => ?_)
                clear hK K
                try simp only [Act.put, List.setIfInBounds_toArray, List.set_cons_zero, List.set_cons_succ]
                generalize wa2.alloc (.cells #[.slice none 0 0, .slice none 0 0] 40 (0, 0)) = wa3 at *
                obtain ⟨q0, q1⟩ := G3.out.cells
                have f0 := G3.out.free 0
                have f1 := G3.out.free 1
                refine wpAnyH_ready (rs := [10]) (by kernel_rfl) (by simp) ?_
                refine AllReadyH.cons (op_at (r := _) rfl) (fun K hK => ?_) AllReadyH.nil
                go_simp
                refine hK.out _ _ ((BB3.out.setCell (p := ⟨wa2.heap.size, 0, none⟩) le3 _).setCell (p := ⟨wa2.heap.size, 1, none⟩) le3 _) (fun hHeld => ?_)
                clear hK K
                try simp only [Act.put, List.setIfInBounds_toArray, List.set_cons_zero, List.set_cons_succ]
                refine wpAnyH_done (by kernel_rfl) ?_ _
                refine NoPanic.normal ?_
                have F1 := Lib.hid ((OwnE.setBox (x := (.slice (some ⟨wd.heap.size, 0, none⟩) g.ns.length g.ns.length)) N3.out G3.out (by decide) 0).setBox (x := (.slice (some ⟨wa1.heap.size, 0, none⟩) g.es.length g.es.length)) (G3.out.set0 _) (by decide) 1)
                have F2 := Lib.hid ((OwnE.setBox (x := (.slice (some ⟨wd.heap.size, 0, none⟩) g.ns.length g.ns.length)) E3.out G3.out (by decide) 0).setBox (x := (.slice (some ⟨wa1.heap.size, 0, none⟩) g.es.length g.es.length)) (G3.out.set0 _) (by decide) 1)
                have F3 := Lib.hid ((G3.out.set0 (.slice (some ⟨wd.heap.size, 0, none⟩) g.ns.length g.ns.length)).set1 (.slice (some ⟨wa1.heap.size, 0, none⟩) g.es.length g.es.length))
                have F4 := Lib.hid ((BB3.out.setCell (p := ⟨wa2.heap.size, 0, none⟩) le3 (.slice (some ⟨wd.heap.size, 0, none⟩) g.ns.length g.ns.length)).setCell (p := ⟨wa2.heap.size, 1, none⟩) le3 (.slice (some ⟨wa1.heap.size, 0, none⟩) g.es.length g.es.length))
                go_wp2_with fail
                go_meet
                exact ⟨_, _, _, rfl, F3.out, F1.out, F2.out, ne2, le3, le1, le2, F4.out⟩
            · skip
              go_simp
              have hb4 := below_a wa1 (.cells #[.slice none 0 0, .slice none 0 0] 40 (0, 0))
              have G4 := Lib.hid (show BoxIs wa1.heap.size (.slice none 0 0) (.slice none 0 0) 40 (wa1.alloc (.cells #[.slice none 0 0, .slice none 0 0] 40 (0, 0))) from heap_alloc_new _ _)
              have BB4 := Lib.hid (BB1.out.trans (hb4.mono BB1.out.size))
              have N4 := Lib.hid (OwnE.below G1.out hb4 (Nat.le_refl _))
              have le4 : w4.heap.size ≤ wa1.heap.size := BB1.out.size
              clear hb4
              refine hK.out _ _ BB4.out (fun hHeld => ?_)
              clear hK K
              try simp only [Act.put, List.setIfInBounds_toArray, List.set_cons_zero, List.set_cons_succ]
              generalize wa1.alloc (.cells #[.slice none 0 0, .slice none 0 0] 40 (0, 0)) = wa4 at *
              refine wpAnyH_ready (rs := [7]) (by kernel_rfl) (by simp) ?_
              refine AllReadyH.cons (op_at (r := _) rfl) (fun K hK => ?_) AllReadyH.nil
              · skip
                have ne5 := Nat.ne_of_lt (OwnE.lt N4.out _ rfl).2
                refine step_make_I (by rfl) _ _ (by rfl) w4.heap.size g.es.length (by rfl) (by rfl) (by omega) BB4.out.size ?_
                intro wa5 hn5 hb5 hs5
                have G5 := Lib.hid hn5
                have BB5 := Lib.hid (BB4.out.trans (hb5.mono BB4.out.size))
                have N5 := Lib.hid (OwnE.below N4.out hb5 (Nat.le_refl _))
                have X5 := Lib.hid (G4.out.up hb5)
                have le5 : w4.heap.size ≤ wa4.heap.size := BB4.out.size
                clear hn5 hb5 hs5
                refine hK.out _ _ BB5.out (fun hHeld => ?_)
                clear hK K
                try simp only [Act.put, List.setIfInBounds_toArray, List.set_cons_zero, List.set_cons_succ]
                refine wpAnyH_take (i := 8) (v := ?_) (op_at (r := _) rfl) (by kernel_rfl) (by kernel_rfl) (by kernel_rfl) (fun _ _ _ h => h) (Or.inl ⟨by rfl, ?_⟩) (by assumption) ?_
                rotate_left
                · intro W2 hSw
                  skip
                  go_simp
                  try with_reducible rfl
                try simp only [Act.put, List.setIfInBounds_toArray, List.set_cons_zero, List.set_cons_succ]
                obtain ⟨q0, q1⟩ := X5.out.cells
                have f0 := X5.out.free 0
                have f1 := X5.out.free 1
                refine wpAnyH_ready (rs := [10]) (by kernel_rfl) (by simp) ?_
                refine AllReadyH.cons (op_at (r := _) rfl) (fun K hK => ?_) AllReadyH.nil
                go_simp
                refine hK.out _ _ ((BB5.out.setCell (p := ⟨wa1.heap.size, 0, none⟩) le4 _).setCell (p := ⟨wa1.heap.size, 1, none⟩) le4 _) (fun hHeld => ?_)
                clear hK K
                try simp only [Act.put, List.setIfInBounds_toArray, List.set_cons_zero, List.set_cons_succ]
                refine wpAnyH_done (by kernel_rfl) ?_ _
                refine NoPanic.normal ?_
                have F1 := Lib.hid ((OwnE.setBox (x := (.slice (some ⟨wd.heap.size, 0, none⟩) g.ns.length g.ns.length)) N5.out X5.out (by decide) 0).setBox (x := (.slice (some ⟨wa4.heap.size, 0, none⟩) g.es.length g.es.length)) (X5.out.set0 _) (by decide) 1)
                have F2 := Lib.hid ((OwnE.setBox (x := (.slice (some ⟨wd.heap.size, 0, none⟩) g.ns.length g.ns.length)) G5.out X5.out (by decide) 0).setBox (x := (.slice (some ⟨wa4.heap.size, 0, none⟩) g.es.length g.es.length)) (X5.out.set0 _) (by decide) 1)
                have F3 := Lib.hid ((X5.out.set0 (.slice (some ⟨wd.heap.size, 0, none⟩) g.ns.length g.ns.length)).set1 (.slice (some ⟨wa4.heap.size, 0, none⟩) g.es.length g.es.length))
                have F4 := Lib.hid ((BB5.out.setCell (p := ⟨wa1.heap.size, 0, none⟩) le4 (.slice (some ⟨wd.heap.size, 0, none⟩) g.ns.length g.ns.length)).setCell (p := ⟨wa1.heap.size, 1, none⟩) le4 (.slice (some ⟨wa4.heap.size, 0, none⟩) g.es.length g.es.length))
                go_wp2_with fail
                go_meet
                exact ⟨_, _, _, rfl, F3.out, F1.out, F2.out, ne5, le4, le1, le5, F4.out⟩
          · skip
            refine step_make_I (by rfl) _ _ (by rfl) w4.heap.size g.es.length (by rfl) (by rfl) (by omega) B0.out.size ?_
            intro wa6 hn6 hb6 hs6
            have G6 := Lib.hid hn6
            have BB6 := Lib.hid (B0.out.trans (hb6.mono B0.out.size))
            have le6 : w4.heap.size ≤ wd.heap.size := B0.out.size
            clear hn6 hb6 hs6
            refine hK.out _ _ BB6.out (fun hHeld => ?_)
            clear hK K
            try simp only [Act.put, List.setIfInBounds_toArray, List.set_cons_zero, List.set_cons_succ]
            refine wpAnyH_ready (rs := [3, 9]) (by kernel_rfl) (by simp) ?_
            refine AllReadyH.cons (op_at (r := _) rfl) (fun K hK => ?_) (AllReadyH.cons (op_at (r := _) rfl) (fun K hK => ?_) AllReadyH.nil)
            · skip
              have ne7 := Nat.ne_of_gt (OwnE.lt G6.out _ rfl).2
              refine step_make_I (by rfl) _ _ (by rfl) w4.heap.size g.ns.length (by rfl) (by rfl) (by omega) BB6.out.size ?_
              intro wa7 hn7 hb7 hs7
              have G7 := Lib.hid hn7
              have BB7 := Lib.hid (BB6.out.trans (hb7.mono BB6.out.size))
              have E7 := Lib.hid (OwnE.below G6.out hb7 (Nat.le_refl _))
              have le7 : w4.heap.size ≤ wa6.heap.size := BB6.out.size
              clear hn7 hb7 hs7
              refine hK.out _ _ BB7.out (fun hHeld => ?_)
              clear hK K
              try simp only [Act.put, List.setIfInBounds_toArray, List.set_cons_zero, List.set_cons_succ]
              refine wpAnyH_take (i := 8) (v := ?_) (op_at (r := _) rfl) (by kernel_rfl) (by kernel_rfl) (by kernel_rfl) (fun _ _ _ h => h) (Or.inl ⟨by rfl, ?_⟩) (by assumption) ?_
              rotate_left
              · intro W2 hSw
                skip
                go_simp
                try with_reducible rfl
              try simp only [Act.put, List.setIfInBounds_toArray, List.set_cons_zero, List.set_cons_succ]
              refine wpAnyH_ready (rs := [9]) (by kernel_rfl) (by simp) ?_
              refine AllReadyH.cons (op_at (r := _) rfl) (fun K hK => ?_) AllReadyH.nil
              · skip
                go_simp
                have hb8 := below_a wa7 (.cells #[.slice none 0 0, .slice none 0 0] 40 (0, 0))
                have G8 := Lib.hid (show BoxIs wa7.heap.size (.slice none 0 0) (.slice none 0 0) 40 (wa7.alloc (.cells #[.slice none 0 0, .slice none 0 0] 40 (0, 0))) from heap_alloc_new _ _)
                have BB8 := Lib.hid (BB7.out.trans (hb8.mono BB7.out.size))
                have N8 := Lib.hid (OwnE.below G7.out hb8 (Nat.le_refl _))
                have E8 := Lib.hid (OwnE.below E7.out hb8 (Nat.le_refl _))
                have le8 : w4.heap.size ≤ wa7.heap.size := BB7.out.size
                clear hb8
                refine hK.out _ _ BB8.out (fun hHeld => ?_)
                clear hK K
                try simp only [Act.put, List.setIfInBounds_toArray, List.set_cons_zero, List.set_cons_succ]
                generalize wa7.alloc (.cells #[.slice none 0 0, .slice none 0 0] 40 (0, 0)) = wa8 at *
                obtain ⟨q0, q1⟩ := G8.out.cells
                have f0 := G8.out.free 0
                have f1 := G8.out.free 1
                refine wpAnyH_ready (rs := [10]) (by kernel_rfl) (by simp) ?_
                refine AllReadyH.cons (op_at (r := _) rfl) (fun K hK => ?_) AllReadyH.nil
                go_simp
                refine hK.out _ _ ((BB8.out.setCell (p := ⟨wa7.heap.size, 0, none⟩) le8 _).setCell (p := ⟨wa7.heap.size, 1, none⟩) le8 _) (fun hHeld => ?_)
                clear hK K
                try simp only [Act.put, List.setIfInBounds_toArray, List.set_cons_zero, List.set_cons_succ]
                refine wpAnyH_done (by kernel_rfl) ?_ _
                refine NoPanic.normal ?_
                have F1 := Lib.hid ((OwnE.setBox (x := (.slice (some ⟨wa6.heap.size, 0, none⟩) g.ns.length g.ns.length)) N8.out G8.out (by decide) 0).setBox (x := (.slice (some ⟨wd.heap.size, 0, none⟩) g.es.length g.es.length)) (G8.out.set0 _) (by decide) 1)
                have F2 := Lib.hid ((OwnE.setBox (x := (.slice (some ⟨wa6.heap.size, 0, none⟩) g.ns.length g.ns.length)) E8.out G8.out (by decide) 0).setBox (x := (.slice (some ⟨wd.heap.size, 0, none⟩) g.es.length g.es.length)) (G8.out.set0 _) (by decide) 1)
                have F3 := Lib.hid ((G8.out.set0 (.slice (some ⟨wa6.heap.size, 0, none⟩) g.ns.length g.ns.length)).set1 (.slice (some ⟨wd.heap.size, 0, none⟩) g.es.length g.es.length))
                have F4 := Lib.hid ((BB8.out.setCell (p := ⟨wa7.heap.size, 0, none⟩) le8 (.slice (some ⟨wa6.heap.size, 0, none⟩) g.ns.length g.ns.length)).setCell (p := ⟨wa7.heap.size, 1, none⟩) le8 (.slice (some ⟨wd.heap.size, 0, none⟩) g.es.length g.es.length))
                go_wp2_with fail
                go_meet
                exact ⟨_, _, _, rfl, F3.out, F1.out, F2.out, ne7, le8, le7, le6, F4.out⟩
            · skip
              go_simp
              have hb9 := below_a wa6 (.cells #[.slice none 0 0, .slice none 0 0] 40 (0, 0))
              have G9 := Lib.hid (show BoxIs wa6.heap.size (.slice none 0 0) (.slice none 0 0) 40 (wa6.alloc (.cells #[.slice none 0 0, .slice none 0 0] 40 (0, 0))) from heap_alloc_new _ _)
              have BB9 := Lib.hid (BB6.out.trans (hb9.mono BB6.out.size))
              have E9 := Lib.hid (OwnE.below G6.out hb9 (Nat.le_refl _))
              have le9 : w4.heap.size ≤ wa6.heap.size := BB6.out.size
              clear hb9
              refine hK.out _ _ BB9.out (fun hHeld => ?_)
              clear hK K
              try simp only [Act.put, List.setIfInBounds_toArray, List.set_cons_zero, List.set_cons_succ]
              generalize wa6.alloc (.cells #[.slice none 0 0, .slice none 0 0] 40 (0, 0)) = wa9 at *
              refine wpAnyH_ready (rs := [3]) (by kernel_rfl) (by simp) ?_
              refine AllReadyH.cons (op_at (r := _) rfl) (fun K hK => ?_) AllReadyH.nil
              · skip
                have ne10 := Nat.ne_of_gt (OwnE.lt E9.out _ rfl).2
                refine step_make_I (by rfl) _ _ (by rfl) w4.heap.size g.ns.length (by rfl) (by rfl) (by omega) BB9.out.size ?_
                intro wa10 hn10 hb10 hs10
                have G10 := Lib.hid hn10
                have BB10 := Lib.hid (BB9.out.trans (hb10.mono BB9.out.size))
                have E10 := Lib.hid (OwnE.below E9.out hb10 (Nat.le_refl _))
                have X10 := Lib.hid (G9.out.up hb10)
                have le10 : w4.heap.size ≤ wa9.heap.size := BB9.out.size
                clear hn10 hb10 hs10
                refine hK.out _ _ BB10.out (fun hHeld => ?_)
                clear hK K
                try simp only [Act.put, List.setIfInBounds_toArray, List.set_cons_zero, List.set_cons_succ]
                refine wpAnyH_take (i := 8) (v := ?_) (op_at (r := _) rfl) (by kernel_rfl) (by kernel_rfl) (by kernel_rfl) (fun _ _ _ h => h) (Or.inl ⟨by rfl, ?_⟩) (by assumption) ?_
                rotate_left
                · intro W2 hSw
                  skip
                  go_simp
                  try with_reducible rfl
                try simp only [Act.put, List.setIfInBounds_toArray, List.set_cons_zero, List.set_cons_succ]
                obtain ⟨q0, q1⟩ := X10.out.cells
                have f0 := X10.out.free 0
                have f1 := X10.out.free 1
                refine wpAnyH_ready (rs := [10]) (by kernel_rfl) (by simp) ?_
                refine AllReadyH.cons (op_at (r := _) rfl) (fun K hK => ?_) AllReadyH.nil
                go_simp
                refine hK.out _ _ ((BB10.out.setCell (p := ⟨wa6.heap.size, 0, none⟩) le9 _).setCell (p := ⟨wa6.heap.size, 1, none⟩) le9 _) (fun hHeld => ?_)
                clear hK K
                try simp only [Act.put, List.setIfInBounds_toArray, List.set_cons_zero, List.set_cons_succ]
                refine wpAnyH_done (by kernel_rfl) ?_ _
                refine NoPanic.normal ?_
                have F1 := Lib.hid ((OwnE.setBox (x := (.slice (some ⟨wa9.heap.size, 0, none⟩) g.ns.length g.ns.length)) G10.out X10.out (by decide) 0).setBox (x := (.slice (some ⟨wd.heap.size, 0, none⟩) g.es.length g.es.length)) (X10.out.set0 _) (by decide) 1)
                have F2 := Lib.hid ((OwnE.setBox (x := (.slice (some ⟨wa9.heap.size, 0, none⟩) g.ns.length g.ns.length)) E10.out X10.out (by decide) 0).setBox (x := (.slice (some ⟨wd.heap.size, 0, none⟩) g.es.length g.es.length)) (X10.out.set0 _) (by decide) 1)
                have F3 := Lib.hid ((X10.out.set0 (.slice (some ⟨wa9.heap.size, 0, none⟩) g.ns.length g.ns.length)).set1 (.slice (some ⟨wd.heap.size, 0, none⟩) g.es.length g.es.length))
                have F4 := Lib.hid ((BB10.out.setCell (p := ⟨wa6.heap.size, 0, none⟩) le9 (.slice (some ⟨wa9.heap.size, 0, none⟩) g.ns.length g.ns.length)).setCell (p := ⟨wa6.heap.size, 1, none⟩) le9 (.slice (some ⟨wd.heap.size, 0, none⟩) g.es.length g.es.length))
                go_wp2_with fail
                go_meet
                exact ⟨_, _, _, rfl, F3.out, F1.out, F2.out, ne10, le9, le10, le6, F4.out⟩
          · skip
            go_simp
            have hb11 := below_a wd (.cells #[.slice none 0 0, .slice none 0 0] 40 (0, 0))
            have G11 := Lib.hid (show BoxIs wd.heap.size (.slice none 0 0) (.slice none 0 0) 40 (wd.alloc (.cells #[.slice none 0 0, .slice none 0 0] 40 (0, 0))) from heap_alloc_new _ _)
            have BB11 := Lib.hid (B0.out.trans (hb11.mono B0.out.size))
            have le11 : w4.heap.size ≤ wd.heap.size := B0.out.size
            clear hb11
            refine hK.out _ _ BB11.out (fun hHeld => ?_)
            clear hK K
            try simp only [Act.put, List.setIfInBounds_toArray, List.set_cons_zero, List.set_cons_succ]
            generalize wd.alloc (.cells #[.slice none 0 0, .slice none 0 0] 40 (0, 0)) = wa11 at *
            refine wpAnyH_ready (rs := [3, 7]) (by kernel_rfl) (by simp) ?_
            refine AllReadyH.cons (op_at (r := _) rfl) (fun K hK => ?_) (AllReadyH.cons (op_at (r := _) rfl) (fun K hK => ?_) AllReadyH.nil)
            · skip
              refine step_make_I (by rfl) _ _ (by rfl) w4.heap.size g.ns.length (by rfl) (by rfl) (by omega) BB11.out.size ?_
              intro wa12 hn12 hb12 hs12
              have G12 := Lib.hid hn12
              have BB12 := Lib.hid (BB11.out.trans (hb12.mono BB11.out.size))
              have X12 := Lib.hid (G11.out.up hb12)
              have le12 : w4.heap.size ≤ wa11.heap.size := BB11.out.size
              clear hn12 hb12 hs12
              refine hK.out _ _ BB12.out (fun hHeld => ?_)
              clear hK K
              try simp only [Act.put, List.setIfInBounds_toArray, List.set_cons_zero, List.set_cons_succ]
              refine wpAnyH_ready (rs := [7]) (by kernel_rfl) (by simp) ?_
              refine AllReadyH.cons (op_at (r := _) rfl) (fun K hK => ?_) AllReadyH.nil
              · skip
                have ne13 := Nat.ne_of_lt (OwnE.lt G12.out _ rfl).2
                refine step_make_I (by rfl) _ _ (by rfl) w4.heap.size g.es.length (by rfl) (by rfl) (by omega) BB12.out.size ?_
                intro wa13 hn13 hb13 hs13
                have G13 := Lib.hid hn13
                have BB13 := Lib.hid (BB12.out.trans (hb13.mono BB12.out.size))
                have N13 := Lib.hid (OwnE.below G12.out hb13 (Nat.le_refl _))
                have X13 := Lib.hid (X12.out.up hb13)
                have le13 : w4.heap.size ≤ wa12.heap.size := BB12.out.size
                clear hn13 hb13 hs13
                refine hK.out _ _ BB13.out (fun hHeld => ?_)
                clear hK K
                try simp only [Act.put, List.setIfInBounds_toArray, List.set_cons_zero, List.set_cons_succ]
                refine wpAnyH_take (i := 8) (v := ?_) (op_at (r := _) rfl) (by kernel_rfl) (by kernel_rfl) (by kernel_rfl) (fun _ _ _ h => h) (Or.inl ⟨by rfl, ?_⟩) (by assumption) ?_
                rotate_left
                · intro W2 hSw
                  skip
                  go_simp
                  try with_reducible rfl
                try simp only [Act.put, List.setIfInBounds_toArray, List.set_cons_zero, List.set_cons_succ]
                obtain ⟨q0, q1⟩ := X13.out.cells
                have f0 := X13.out.free 0
                have f1 := X13.out.free 1
                refine wpAnyH_ready (rs := [10]) (by kernel_rfl) (by simp) ?_
                refine AllReadyH.cons (op_at (r := _) rfl) (fun K hK => ?_) AllReadyH.nil
                go_simp
                refine hK.out _ _ ((BB13.out.setCell (p := ⟨wd.heap.size, 0, none⟩) le11 _).setCell (p := ⟨wd.heap.size, 1, none⟩) le11 _) (fun hHeld => ?_)
                clear hK K
                try simp only [Act.put, List.setIfInBounds_toArray, List.set_cons_zero, List.set_cons_succ]
                refine wpAnyH_done (by kernel_rfl) ?_ _
                refine NoPanic.normal ?_
                have F1 := Lib.hid ((OwnE.setBox (x := (.slice (some ⟨wa11.heap.size, 0, none⟩) g.ns.length g.ns.length)) N13.out X13.out (by decide) 0).setBox (x := (.slice (some ⟨wa12.heap.size, 0, none⟩) g.es.length g.es.length)) (X13.out.set0 _) (by decide) 1)
                have F2 := Lib.hid ((OwnE.setBox (x := (.slice (some ⟨wa11.heap.size, 0, none⟩) g.ns.length g.ns.length)) G13.out X13.out (by decide) 0).setBox (x := (.slice (some ⟨wa12.heap.size, 0, none⟩) g.es.length g.es.length)) (X13.out.set0 _) (by decide) 1)
                have F3 := Lib.hid ((X13.out.set0 (.slice (some ⟨wa11.heap.size, 0, none⟩) g.ns.length g.ns.length)).set1 (.slice (some ⟨wa12.heap.size, 0, none⟩) g.es.length g.es.length))
                have F4 := Lib.hid ((BB13.out.setCell (p := ⟨wd.heap.size, 0, none⟩) le11 (.slice (some ⟨wa11.heap.size, 0, none⟩) g.ns.length g.ns.length)).setCell (p := ⟨wd.heap.size, 1, none⟩) le11 (.slice (some ⟨wa12.heap.size, 0, none⟩) g.es.length g.es.length))
                go_wp2_with fail
                go_meet
                exact ⟨_, _, _, rfl, F3.out, F1.out, F2.out, ne13, le11, le12, le13, F4.out⟩
            · skip
              refine step_make_I (by rfl) _ _ (by rfl) w4.heap.size g.es.length (by rfl) (by rfl) (by omega) BB11.out.size ?_
              intro wa14 hn14 hb14 hs14
              have G14 := Lib.hid hn14
              have BB14 := Lib.hid (BB11.out.trans (hb14.mono BB11.out.size))
              have X14 := Lib.hid (G11.out.up hb14)
              have le14 : w4.heap.size ≤ wa11.heap.size := BB11.out.size
              clear hn14 hb14 hs14
              refine hK.out _ _ BB14.out (fun hHeld => ?_)
              clear hK K
              try simp only [Act.put, List.setIfInBounds_toArray, List.set_cons_zero, List.set_cons_succ]
              refine wpAnyH_ready (rs := [3]) (by kernel_rfl) (by simp) ?_
              refine AllReadyH.cons (op_at (r := _) rfl) (fun K hK => ?_) AllReadyH.nil
              · skip
                have ne15 := Nat.ne_of_gt (OwnE.lt G14.out _ rfl).2
                refine step_make_I (by rfl) _ _ (by rfl) w4.heap.size g.ns.length (by rfl) (by rfl) (by omega) BB14.out.size ?_
                intro wa15 hn15 hb15 hs15
                have G15 := Lib.hid hn15
                have BB15 := Lib.hid (BB14.out.trans (hb15.mono BB14.out.size))
                have E15 := Lib.hid (OwnE.below G14.out hb15 (Nat.le_refl _))
                have X15 := Lib.hid (X14.out.up hb15)
                have le15 : w4.heap.size ≤ wa14.heap.size := BB14.out.size
                clear hn15 hb15 hs15
                refine hK.out _ _ BB15.out (fun hHeld => ?_)
                clear hK K
                try simp only [Act.put, List.setIfInBounds_toArray, List.set_cons_zero, List.set_cons_succ]
                refine wpAnyH_take (i := 8) (v := ?_) (op_at (r := _) rfl) (by kernel_rfl) (by kernel_rfl) (by kernel_rfl) (fun _ _ _ h => h) (Or.inl ⟨by rfl, ?_⟩) (by assumption) ?_
                rotate_left
                · intro W2 hSw
                  skip
                  go_simp
                  try with_reducible rfl
                try simp only [Act.put, List.setIfInBounds_toArray, List.set_cons_zero, List.set_cons_succ]
                obtain ⟨q0, q1⟩ := X15.out.cells
                have f0 := X15.out.free 0
                have f1 := X15.out.free 1
                refine wpAnyH_ready (rs := [10]) (by kernel_rfl) (by simp) ?_
                refine AllReadyH.cons (op_at (r := _) rfl) (fun K hK => ?_) AllReadyH.nil
                go_simp
                refine hK.out _ _ ((BB15.out.setCell (p := ⟨wd.heap.size, 0, none⟩) le11 _).setCell (p := ⟨wd.heap.size, 1, none⟩) le11 _) (fun hHeld => ?_)
                clear hK K
                try simp only [Act.put, List.setIfInBounds_toArray, List.set_cons_zero, List.set_cons_succ]
                refine wpAnyH_done (by kernel_rfl) ?_ _
                refine NoPanic.normal ?_
                have F1 := Lib.hid ((OwnE.setBox (x := (.slice (some ⟨wa14.heap.size, 0, none⟩) g.ns.length g.ns.length)) G15.out X15.out (by decide) 0).setBox (x := (.slice (some ⟨wa11.heap.size, 0, none⟩) g.es.length g.es.length)) (X15.out.set0 _) (by decide) 1)
                have F2 := Lib.hid ((OwnE.setBox (x := (.slice (some ⟨wa14.heap.size, 0, none⟩) g.ns.length g.ns.length)) E15.out X15.out (by decide) 0).setBox (x := (.slice (some ⟨wa11.heap.size, 0, none⟩) g.es.length g.es.length)) (X15.out.set0 _) (by decide) 1)
                have F3 := Lib.hid ((X15.out.set0 (.slice (some ⟨wa14.heap.size, 0, none⟩) g.ns.length g.ns.length)).set1 (.slice (some ⟨wa11.heap.size, 0, none⟩) g.es.length g.es.length))
                have F4 := Lib.hid ((BB15.out.setCell (p := ⟨wd.heap.size, 0, none⟩) le11 (.slice (some ⟨wa14.heap.size, 0, none⟩) g.ns.length g.ns.length)).setCell (p := ⟨wd.heap.size, 1, none⟩) le11 (.slice (some ⟨wa11.heap.size, 0, none⟩) g.es.length g.es.length))
                go_wp2_with fail
                go_meet
                exact ⟨_, _, _, rfl, F3.out, F1.out, F2.out, ne15, le11, le15, le14, F4.out⟩
        case rest =>
          obtain ⟨bk, gs, gt, rfl, hbx, hrs, hrt, hne, lbk, lgs, lgt, hbe⟩ := hcut
          have HBX := Lib.hid hbx
          have HRS := Lib.hid hrs
          have HRT := Lib.hid hrt
          have HBE := Lib.hid hbe
          clear hbx hrs hrt hbe
          have HL1 := Lib.hid HP1.out.len
          have HL2 := Lib.hid HP2.out.len
          have HK0 : Hid (bkL m.ns g.ns.length 0 = List.replicate g.ns.length 0) := Lib.hid rfl
          have HK1 : Hid (bkL m.es g.es.length 0 = List.replicate g.es.length 0) := Lib.hid rfl
          have HKS : Hid (∀ i, bkL m.ns g.ns.length (i + 1) = (bkL m.ns g.ns.length i).set (m.ns.getD i 0).toNat (i : Int)) := Lib.hid fun i => rfl
          have HKT : Hid (∀ i, bkL m.es g.es.length (i + 1) = (bkL m.es g.es.length i).set (m.es.getD i 0).toNat (i : Int)) := Lib.hid fun i => rfl
          obtain ⟨c0, c1⟩ := (HX.out _ HBE.out).m.cells
          have y0 := (HX.out _ HBE.out).m.lt
          go_wp2_with fail
          clear c0 c1 y0
          go_loopw [68] (fun vi wr => ∃ i : Nat, i ≤ g.ns.length ∧ vi = .int .i64 i ∧ BoxIs bk (.slice (some ⟨gs, 0, none⟩) g.ns.length g.ns.length) (.slice (some ⟨gt, 0, none⟩) g.es.length g.es.length) 40 wr ∧ OwnI wr w4.heap.size (.slice (some ⟨gs, 0, none⟩) g.ns.length g.ns.length) (bkL m.ns g.ns.length i) ∧ OwnI wr w4.heap.size (.slice (some ⟨gt, 0, none⟩) g.es.length g.es.length) (List.replicate g.es.length 0) ∧ Below w4.heap.size w4 wr) (fun vi _ => g.ns.length - (intOf vi).toNat)
          case atStart => exact ⟨0, Nat.zero_le _, rfl, HBX.out, by rw [HK0.out]; exact HRS.out, HRT.out, HBE.out⟩
          case round =>
            clear HBX HRS HRT HBE
            obtain ⟨i, hi, rfl, hbx, hRS, hRT, hbe⟩ := hrel
            have HBX := Lib.hid hbx
            have HRS := Lib.hid hRS
            have HRT := Lib.hid hRT
            have HBE := Lib.hid hbe
            have hbo := heap_lt hbx
            clear hbx hRS hRT hbe
            by_cases hlt : i < g.ns.length
            · have hmi : i < m.ns.length := by rw [HL1.out]; exact hlt
              obtain ⟨bm, om, hAe, hbm, hcm⟩ := Ints.cells (HX.out _ HBE.out).m.mo.ns hmi
              subst hAe
              have q0 := hcm i hmi
              have hp := HP1.out.at hlt
              obtain ⟨q, hq⟩ : ∃ q : Nat, m.ns.getD i 0 = (q : Int) := ⟨(m.ns.getD i 0).toNat, by omega⟩
              have HE2 := Lib.hid (HKS.out i)
              rw [hq] at q0 hp HE2
              rw [Int.toNat_natCast] at HE2
              have hqn : q < g.ns.length := by omega
              have hln : g.ns.length = (bkL m.ns g.ns.length i).length := (scat_len _ _ _ _ _).symm
              have ck := OwnI.cell hln HRS.out hqn
              have fk := OwnI.free hln HRS.out q
              have hset := OwnI.set hln HRS.out q (i : Int)
              rw [← HE2.out] at hset
              have HS1 := Lib.hid hset.1
              have HS2 := Lib.hid (BoxIs.row (x := .int .i64 (i : Int)) HBX.out HRS.out (by decide) q)
              have HS3 := Lib.hid (OwnE.kept HRT.out hset.2 (.inr (fun e => hne (Option.some.inj e).symm)))
              obtain ⟨b0, b1⟩ := HBX.out.cells
              have i0 : (0 : Int) ≤ (i : Int) := by omega
              have i1 : (i : Int) < (m.ns.length : Int) := by omega
              have i2 : ((i : Int)).toNat = i := by omega
              have j0 : (0 : Int) ≤ (q : Int) := by omega
              have j1 : (q : Int) < (g.ns.length : Int) := by omega
              have j2 : ((q : Int)).toNat = q := by omega
              clear hcm hq hp hset hln
              generalize (bkL m.ns g.ns.length i).getD q 0 = z at *
              go_wp2_with fail
              go_roundw
              case rel => exact ⟨i + 1, by omega, by go_num, HS2.out, HS1.out, HS3.out, HBE.out.setCell (p := ⟨gs, q, none⟩) lgs _⟩
              case measure => simp [intOf]; omega
            · have e : i = g.ns.length := by omega
              subst e
              have hlt : ¬ g.ns.length < m.ns.length := by rw [HL1.out]; omega
              obtain ⟨c0, c1⟩ := (HX.out _ HBE.out).m.cells
              have y0 := (HX.out _ HBE.out).m.lt
              go_wp2_with fail
              clear c0 c1 y0 hlt hi hbo
              go_loopw [82] (fun vi wr => ∃ i : Nat, i ≤ g.es.length ∧ vi = .int .i64 i ∧ BoxIs bk (.slice (some ⟨gs, 0, none⟩) g.ns.length g.ns.length) (.slice (some ⟨gt, 0, none⟩) g.es.length g.es.length) 40 wr ∧ OwnI wr w4.heap.size (.slice (some ⟨gt, 0, none⟩) g.es.length g.es.length) (bkL m.es g.es.length i) ∧ OwnI wr w4.heap.size (.slice (some ⟨gs, 0, none⟩) g.ns.length g.ns.length) (bkL m.ns g.ns.length g.ns.length) ∧ Below w4.heap.size w4 wr) (fun vi _ => g.es.length - (intOf vi).toNat)
              case atStart => exact ⟨0, Nat.zero_le _, rfl, HBX.out, by rw [HK1.out]; exact HRT.out, HRS.out, HBE.out⟩
              case round =>
                clear HBX HRS HRT HBE
                obtain ⟨i, hi, rfl, hbx, hRT, hRS, hbe⟩ := hrel
                have HBX := Lib.hid hbx
                have HRT := Lib.hid hRT
                have HRS := Lib.hid hRS
                have HBE := Lib.hid hbe
                have hbo := heap_lt hbx
                clear hbx hRT hRS hbe
                by_cases hlt : i < g.es.length
                · have hmi : i < m.es.length := by rw [HL2.out]; exact hlt
                  obtain ⟨bm, om, hAe, hbm, hcm⟩ := Ints.cells (HX.out _ HBE.out).m.mo.es hmi
                  subst hAe
                  have q0 := hcm i hmi
                  have hp := HP2.out.at hlt
                  obtain ⟨q, hq⟩ : ∃ q : Nat, m.es.getD i 0 = (q : Int) := ⟨(m.es.getD i 0).toNat, by omega⟩
                  have HE2 := Lib.hid (HKT.out i)
                  rw [hq] at q0 hp HE2
                  rw [Int.toNat_natCast] at HE2
                  have hqn : q < g.es.length := by omega
                  have hln : g.es.length = (bkL m.es g.es.length i).length := (scat_len _ _ _ _ _).symm
                  have ck := OwnI.cell hln HRT.out hqn
                  have fk := OwnI.free hln HRT.out q
                  have hset := OwnI.set hln HRT.out q (i : Int)
                  rw [← HE2.out] at hset
                  have HS1 := Lib.hid hset.1
                  have HS2 := Lib.hid (BoxIs.row (x := .int .i64 (i : Int)) HBX.out HRT.out (by decide) q)
                  have HS3 := Lib.hid (OwnE.kept HRS.out hset.2 (.inr (fun e => hne (Option.some.inj e))))
                  obtain ⟨b0, b1⟩ := HBX.out.cells
                  have i0 : (0 : Int) ≤ (i : Int) := by omega
                  have i1 : (i : Int) < (m.es.length : Int) := by omega
                  have i2 : ((i : Int)).toNat = i := by omega
                  have j0 : (0 : Int) ≤ (q : Int) := by omega
                  have j1 : (q : Int) < (g.es.length : Int) := by omega
                  have j2 : ((q : Int)).toNat = q := by omega
                  clear hcm hq hp hset hln
                  generalize (bkL m.es g.es.length i).getD q 0 = z at *
                  go_wp2_with fail
                  go_roundw
                  case rel => exact ⟨i + 1, by omega, by go_num, HS2.out, HS1.out, HS3.out, HBE.out.setCell (p := ⟨gt, q, none⟩) lgt _⟩
                  case measure => simp [intOf]; omega
                · have e : i = g.es.length := by omega
                  subst e
                  have hlt : ¬ g.es.length < m.es.length := by rw [HL2.out]; omega
                  obtain ⟨X1, x1, e1, R1, hk1⟩ := OwnE.reads_cap HRS.out
                  obtain ⟨X2, x2, e2, R2, hk2⟩ := OwnE.reads_cap HRT.out
                  have bl1 : (bkL m.ns g.ns.length g.ns.length).length = g.ns.length := scat_len _ _ _ _ _
                  have bl2 : (bkL m.es g.es.length g.es.length).length = g.es.length := scat_len _ _ _ _ _
                  simp only [Value.slice.injEq] at e1 e2
                  obtain ⟨e1, e5, e3⟩ := e1
                  obtain ⟨e2, e6, e4⟩ := e2
                  clear e5 e6
                  rw [← e1] at R1
                  rw [← e2] at R2
                  rw [← e3] at hk1
                  rw [← e4] at hk2
                  obtain ⟨bm, b1, b2, hMB⟩ : ∃ bm : Mo, bm.ns = bkL m.ns g.ns.length g.ns.length ∧ bm.es = bkL m.es g.es.length g.es.length ∧ MB bk (some ⟨gs, 0, none⟩) g.ns.length (some ⟨gt, 0, none⟩) g.es.length bm wr :=
                    ⟨⟨bkL m.ns g.ns.length g.ns.length, bkL m.es g.es.length g.es.length⟩, rfl, rfl, ⟨by dsimp only; rw [bl1, bl2]; exact HBX.out, ⟨R1, R2, hk1, hk2⟩⟩⟩
                  have HPB1 := Lib.hid (show PermN bm.ns g.ns.length by rw [b1]; exact bk_perm HP1.out)
                  have HPB2 := Lib.hid (show PermN bm.es g.es.length by rw [b2]; exact bk_perm HP2.out)
                  have HRB := Lib.hid (show reoG (reoG g m) bm = g by
                    have h := reo_back HV.out HP1.out HP2.out
                    rw [← b1, ← b2] at h
                    exact h)
                  have HMB := Lib.hid hMB
                  have HLM := Lib.hid (HX.out _ HBE.out)
                  have HRE := Lib.hid (fun W (hh : LM w gb Gn gn Ge ge g g6 A1 k1 A2 k2 m W) => reo_any g m Gn gn Ge ge A1 k1 A2 k2 W HV.out HP1.out HP2.out hh.g.gr hh.m.mo)
                  have HIN := Lib.hid (fun i hi => reo_inc HV.out HP1.out HP2.out (i := i) hi)
                  have HVH := Lib.hid (reo_valid HV.out HP1.out HP2.out)
                  have HLH := Lib.hid (reo_lens g m)
                  clear hMB b1 b2 e1 e2 e3 e4 R1 R2 hk1 hk2 bl1 bl2 HBX HRS HRT HBE HX HK0 HK1 HKS HKT hbo
                  generalize reoG g m = h at *
                  obtain ⟨c0, c1⟩ := HLM.out.g.cells
                  obtain ⟨c2, c3⟩ := HLM.out.m.cells
                  have y0 := HLM.out.g.lt
                  have y1 := HLM.out.m.lt
                  go_wp2_with fail
                  refine (HRE.out _ HLM.out).mono ?_
                  rintro e w6 ⟨⟨v, rfl, ⟨Hn, hn, He, he, rfl, hH⟩⟩, hb6⟩
                  have HK6 := Lib.hid (show LK w gb Gn gn Ge ge g g6 A1 k1 A2 k2 m bk ⟨gs, 0, none⟩ ⟨gt, 0, none⟩ bm w6.heap.size Hn hn He he h (w6.alloc (.cells #[.slice Hn h.ns.length hn, .slice He h.es.length he] 25 (0, 0))) from ⟨(HLM.out.up hb6).up (below_a _ _), (HMB.out.up hb6).up (below_a _ _), GB.start hH⟩)
                  have HLM6 := Lib.hid (HLM.out.up hb6)
                  clear hb6 hH HLM HMB HRE c0 c1 c2 c3 y0 y1
                  obtain ⟨c0, c1⟩ := HLM6.out.g.cells
                  have y0 := HLM6.out.g.lt
                  go_wp2_with fail
                  clear c0 c1 y0 HLM6
                  generalize w6.alloc (.cells #[.slice Hn h.ns.length hn, .slice He h.es.length he] 25 (0, 0)) = w7 at *
                  generalize w6.heap.size = hb at *
                  go_loopw [104] (fun vi wr => ∃ i : Nat, i ≤ g.ns.length ∧ vi = .int .i64 i ∧ LK w gb Gn gn Ge ge g g6 A1 k1 A2 k2 m bk ⟨gs, 0, none⟩ ⟨gt, 0, none⟩ bm hb Hn hn He he h wr) (fun vi _ => g.ns.length - (intOf vi).toNat)
                  case atStart => exact ⟨0, Nat.zero_le _, rfl, HK6.out⟩
                  case round =>
                    clear HK6
                    obtain ⟨i, hi, rfl, hlk⟩ := hrel
                    have HK := Lib.hid hlk
                    clear hlk
                    obtain ⟨c0, c1⟩ := HK.out.l.g.cells
                    have y0 := HK.out.l.g.lt
                    by_cases hlt : i < g.ns.length
                    · obtain ⟨i1, i2, i3, i4⟩ := HIN.out i hlt
                      obtain ⟨l1, hl1⟩ : ∃ l1, l1 = (incI g i).length := ⟨_, rfl⟩
                      obtain ⟨l2, hl2⟩ : ∃ l2, l2 = (incO g i).length := ⟨_, rfl⟩
                      have HI1 : Hid (∀ W, GrAt W Gn gn Ge ge g → Calls Try.prog 27 #[gval Gn g.ns.length gn Ge g.es.length ge, .int .i64 (i : Int)] W fun e w' => (∃ v, e = .returned v ∧ ∃ a b a' b', v = .tuple #[.slice a l1 b, .slice a' l2 b', .int .i64 0]) ∧ Below W.heap.size W w') := Lib.hid (inc_lens g i l1 l2 i1 hl1 hl2 Gn gn Ge ge)
                      have HI3 : Hid (∀ W, GrAt W Hn hn He he h → Calls Try.prog 27 #[gval Hn h.ns.length hn He h.es.length he, .int .i64 (m.ns.getD i 0)] W fun e w' => (∃ v, e = .returned v ∧ ∃ a b a' b', v = .tuple #[.slice a l1 b, .slice a' l2 b', .int .i64 0]) ∧ Below W.heap.size W w') := Lib.hid (inc_lens h (m.ns.getD i 0) l1 l2 i2 (hl1.trans i3) (hl2.trans i4) Hn hn He he)
                      have hmi : i < m.ns.length := by rw [HL1.out]; exact hlt
                      clear i1 i2 i3 i4 hl1 hl2
                      go_wp2_with fail
                      refine (HI1.out _ HK.out.l.g.gr).mono ?_
                      rintro e w8 ⟨⟨v, rfl, U1, u1, U2, u2, rfl⟩, hb8⟩
                      have HK8 := Lib.hid (HK.out.up hb8)
                      clear hb8 HK HI1 c0 c1 y0
                      obtain ⟨bm6, om, hAe, hbm, hcm⟩ := Ints.cells HK8.out.l.m.mo.ns hmi
                      subst hAe
                      have q0 := hcm i hmi
                      have HCL := Lib.hid (fun W (hb : Below w8.heap.size w8 W) => (show W.cell? ⟨bm6, om + i, none⟩ = some (.int .i64 (m.ns.getD i 0)) from (hb.cell (p := ⟨bm6, om + i, none⟩) hbm).trans q0))
                      clear hcm q0
                      generalize m.ns.getD i 0 = p at *
                      have i0 : (0 : Int) ≤ (i : Int) := by omega
                      have i1 : (i : Int) < (m.ns.length : Int) := by omega
                      have i2 : ((i : Int)).toNat = i := by omega
                      go_wp2_with fail
                      refine wp_region_noPanic ?_
                      refine wp_region_held_drew (S := fun W => LK w gb Gn gn Ge ge g g6 (some ⟨bm6, om, none⟩) k1 A2 k2 m bk ⟨gs, 0, none⟩ ⟨gt, 0, none⟩ bm hb Hn hn He he h W ∧ Below w8.heap.size w8 W) (by kernel_rfl) ⟨HK8.out.up (below_d _), below_d _⟩ (fun hHeld => ?_)
                      refine wpAnyH_act (fun a0 ha0 => ?_)
                      have ea12 : a0.eval (.tmp 12) = .pointer (some ⟨hb, 0, none⟩) := by rw [ha0]; rfl
                      have ea6 : a0.eval (.tmp 6) = .pointer (some ⟨g6, 0, none⟩) := by rw [ha0]; rfl
                      have ea14 : a0.eval (.tmp 14) = .int .i64 (i : Int) := by rw [ha0]; rfl
                      have hsz0 : a0.tmps.size = 159 := by rw [ha0]; rfl
                      refine chain_region (fun W => LK w gb Gn gn Ge ge g g6 (some ⟨bm6, om, none⟩) k1 A2 k2 m bk ⟨gs, 0, none⟩ ⟨gt, 0, none⟩ bm hb Hn hn He he h W ∧ Below w8.heap.size w8 W) (IV (gval Hn h.ns.length hn He h.es.length he) g6 (.slice (some ⟨bm6, om, none⟩) m.ns.length k1) bm6 (om + i) i l1 l2 p) a0 _ [0, 1, 3, 2, 4, 5, 6, 7, 8, 9, 10] [115, 116, 118, 117, 119, 120, 121, 114, 122, 123, 124] [true, true, true, true, true, true, false, true, true, true, true] []
                        _ 3 rfl (by decide) (by decide) (by kernel_rfl) (fun _ _ _ _ _ h => h) (by kernel_rfl) (fun x hx => by cases hx) (fun W W' hh hb => ⟨hh.1.up hb, hh.2.trans (hb.mono hh.2.size)⟩) IV.up ?step ?fin hHeld _ rfl
                      case step =>
                        intro c i d rs bs W h1 h2 h3 h4 hS hF hsz
                        have hc : c < 11 := (List.getElem?_eq_some_iff.1 h3).1
                        have hc : c = 0 ∨ c = 1 ∨ c = 2 ∨ c = 3 ∨ c = 4 ∨ c = 5 ∨ c = 6 ∨ c = 7 ∨ c = 8 ∨ c = 9 ∨ c = 10 := by omega
                        clear h2 hsz
                        rcases hc with rfl | rfl | rfl | rfl | rfl | rfl | rfl | rfl | rfl | rfl | rfl
                        · simp only [List.getElem?_cons_zero, Option.some.injEq] at h3 h4
                          subst h3 h4
                          match rs, h1, hF with
                          | [], _, hF =>
                            clear hF
                            show ChStep _ _ _ _ _ true _ _ _ _
                            generalize hA : pup _ _ bs = A
                            have ev0 : A.eval (.tmp 12) = .pointer (some ⟨hb, 0, none⟩) := ev_old hA ea12 rfl rfl
                            clear hA
                            refine ChStep.pure (o := _) (v := (gval Hn h.ns.length hn He h.es.length he)) rfl rfl rfl (fun W2 hS2 => ?_) rfl
                            obtain ⟨s0, s1⟩ := hS2.1.h.cells
                            have ev0 := ev_raw ev0
                            go_simp
                        · simp only [List.getElem?_cons_zero, List.getElem?_cons_succ, Option.some.injEq] at h3 h4
                          subst h3 h4
                          match rs, h1, hF with
                          | [r0], _, hF =>
                            clear hF
                            show ChStep _ _ _ _ _ true _ _ _ _
                            generalize hA : pup _ _ bs = A
                            have ev0 : A.eval (.tmp 6) = (.pointer (some ⟨g6, 0, none⟩)) := ev_old hA ea6 rfl rfl
                            clear hA
                            refine ChStep.pure (o := _) (v := (.pointer (some ⟨g6, 0, none⟩))) rfl rfl rfl (fun W2 hS2 => ?_) rfl
                            have ev0 := ev_raw ev0
                            go_simp
                        · simp only [List.getElem?_cons_zero, List.getElem?_cons_succ, Option.some.injEq] at h3 h4
                          subst h3 h4
                          match rs, h1, hF with
                          | [r0, r1], _, hF =>
                            clear hF
                            show ChStep _ _ _ _ _ true _ _ _ _
                            generalize hA : pup _ _ bs = A
                            have ev0 : A.eval (.tmp 14) = (.int .i64 (i : Int)) := ev_old hA ea14 rfl rfl
                            clear hA
                            refine ChStep.pure (o := _) (v := (.int .i64 (i : Int))) rfl rfl rfl (fun W2 hS2 => ?_) rfl
                            have ev0 := ev_raw ev0
                            go_simp
                        · simp only [List.getElem?_cons_zero, List.getElem?_cons_succ, Option.some.injEq] at h3 h4
                          subst h3 h4
                          match rs, h1, hF with
                          | [r0, r1, r2], _, hF =>
                            have k1 := hF 1 _ rfl
                            obtain rfl : r1 = (.pointer (some ⟨g6, 0, none⟩)) := k1
                            clear hF
                            show ChStep _ _ _ _ _ true _ _ _ _
                            generalize hA : pup _ _ bs = A
                            have ev0 : A.eval (.tmp 116) = (.pointer (some ⟨g6, 0, none⟩)) := ev_new hA 1 (by decide) rfl rfl (by omega) rfl
                            clear hA
                            refine ChStep.pure (o := _) (v := (.slice (some ⟨bm6, om, none⟩) m.ns.length k1)) rfl rfl rfl (fun W2 hS2 => ?_) rfl
                            obtain ⟨s0, s1⟩ := hS2.1.l.m.cells
                            have ev0 := ev_raw ev0
                            go_simp
                        · simp only [List.getElem?_cons_zero, List.getElem?_cons_succ, Option.some.injEq] at h3 h4
                          subst h3 h4
                          match rs, h1, hF with
                          | [r0, r1, r2, r3], _, hF =>
                            have k2 := hF 2 _ rfl
                            have k3 := hF 3 _ rfl
                            obtain rfl : r2 = (.int .i64 (i : Int)) := k2
                            obtain rfl : r3 = (.slice (some ⟨bm6, om, none⟩) m.ns.length k1) := k3
                            clear hF
                            show ChStep _ _ _ _ _ true _ _ _ _
                            generalize hA : pup _ _ bs = A
                            have ev0 : A.eval (.tmp 117) = (.slice (some ⟨bm6, om, none⟩) m.ns.length k1) := ev_new hA 3 (by decide) rfl rfl (by omega) rfl
                            have ev1 : A.eval (.tmp 118) = (.int .i64 (i : Int)) := ev_new hA 2 (by decide) rfl rfl (by omega) rfl
                            clear hA
                            refine ChStep.pure (o := _) (v := (.pointer (some ⟨bm6, om + i, none⟩))) rfl rfl rfl (fun W2 hS2 => ?_) rfl
                            have ev0 := ev_raw ev0
                            have ev1 := ev_raw ev1
                            go_simp
                        · simp only [List.getElem?_cons_zero, List.getElem?_cons_succ, Option.some.injEq] at h3 h4
                          subst h3 h4
                          match rs, h1, hF with
                          | [r0, r1, r2, r3, r4], _, hF =>
                            have k4 := hF 4 _ rfl
                            obtain rfl : r4 = (.pointer (some ⟨bm6, om + i, none⟩)) := k4
                            clear hF
                            show ChStep _ _ _ _ _ true _ _ _ _
                            generalize hA : pup _ _ bs = A
                            have ev0 : A.eval (.tmp 119) = (.pointer (some ⟨bm6, om + i, none⟩)) := ev_new hA 4 (by decide) rfl rfl (by omega) rfl
                            clear hA
                            refine ChStep.pure (o := _) (v := (.int .i64 p)) rfl rfl rfl (fun W2 hS2 => ?_) rfl
                            have s0 := HCL.out _ hS2.2
                            have ev0 := ev_raw ev0
                            go_simp
                        · simp only [List.getElem?_cons_zero, List.getElem?_cons_succ, Option.some.injEq] at h3 h4
                          subst h3 h4
                          match rs, h1, hF with
                          | [r0, r1, r2, r3, r4, r5], _, hF =>
                            have k0 := hF 0 _ rfl
                            have k5 := hF 5 _ rfl
                            obtain rfl : r0 = (gval Hn h.ns.length hn He h.es.length he) := k0
                            obtain rfl : r5 = (.int .i64 p) := k5
                            clear hF
                            show ChStep _ _ _ _ _ false _ _ _ _
                            generalize hA : pup _ _ bs = A
                            have ev0 : A.eval (.tmp 115) = (gval Hn h.ns.length hn He h.es.length he) := ev_new hA 0 (by decide) rfl rfl (by omega) rfl
                            have ev1 : A.eval (.tmp 120) = (.int .i64 p) := ev_new hA 5 (by decide) rfl rfl (by omega) rfl
                            clear hA
                            refine ChStep.call (o := _) (f := 27) (xs := _) (ts := _) (args := #[(gval Hn h.ns.length hn He h.es.length he), (.int .i64 p)]) rfl rfl rfl rfl (by simp only [List.map_toArray, List.map_cons, List.map_nil, ev0, ev1]) (by kernel_rfl) ?_
                            exact HI3.out W hS.1.h.gr
                        · simp only [List.getElem?_cons_zero, List.getElem?_cons_succ, Option.some.injEq] at h3 h4
                          subst h3 h4
                          match rs, h1, hF with
                          | [r0, r1, r2, r3, r4, r5, r6], _, hF =>
                            have k6 := hF 6 _ rfl
                            obtain ⟨a, b, a2, b2, rfl⟩ := k6
                            clear hF
                            show ChStep _ _ _ _ _ true _ _ _ _
                            generalize hA : pup _ _ bs = A
                            have ev0 : A.eval (.tmp 121) = (.tuple #[.slice a l1 b, .slice a2 l2 b2, .int .i64 0]) := ev_new hA 6 (by decide) rfl rfl (by omega) rfl
                            clear hA
                            refine ChStep.pure (o := _) (v := (.tuple #[.slice a l1 b, .slice a2 l2 b2, .int .i64 0])) rfl rfl rfl (fun W2 hS2 => ?_) ⟨a, b, a2, b2, rfl⟩
                            have ev0 := ev_raw ev0
                            go_simp
                        · simp only [List.getElem?_cons_zero, List.getElem?_cons_succ, Option.some.injEq] at h3 h4
                          subst h3 h4
                          match rs, h1, hF with
                          | [r0, r1, r2, r3, r4, r5, r6, r7], _, hF =>
                            have k7 := hF 7 _ rfl
                            obtain ⟨a, b, a2, b2, rfl⟩ := k7
                            clear hF
                            show ChStep _ _ _ _ _ true _ _ _ _
                            generalize hA : pup _ _ bs = A
                            have ev0 : A.eval (.tmp 114) = (.tuple #[.slice a l1 b, .slice a2 l2 b2, .int .i64 0]) := ev_new hA 7 (by decide) rfl rfl (by omega) rfl
                            clear hA
                            refine ChStep.pure (o := _) (v := (.slice a l1 b)) rfl rfl rfl (fun W2 hS2 => ?_) ⟨a, b, rfl⟩
                            have ev0 := ev_raw ev0
                            go_simp
                        · simp only [List.getElem?_cons_zero, List.getElem?_cons_succ, Option.some.injEq] at h3 h4
                          subst h3 h4
                          match rs, h1, hF with
                          | [r0, r1, r2, r3, r4, r5, r6, r7, r8], _, hF =>
                            have k7 := hF 7 _ rfl
                            obtain ⟨a, b, a2, b2, rfl⟩ := k7
                            clear hF
                            show ChStep _ _ _ _ _ true _ _ _ _
                            generalize hA : pup _ _ bs = A
                            have ev0 : A.eval (.tmp 114) = (.tuple #[.slice a l1 b, .slice a2 l2 b2, .int .i64 0]) := ev_new hA 7 (by decide) rfl rfl (by omega) rfl
                            clear hA
                            refine ChStep.pure (o := _) (v := (.slice a2 l2 b2)) rfl rfl rfl (fun W2 hS2 => ?_) ⟨a2, b2, rfl⟩
                            have ev0 := ev_raw ev0
                            go_simp
                        · simp only [List.getElem?_cons_zero, List.getElem?_cons_succ, Option.some.injEq] at h3 h4
                          subst h3 h4
                          match rs, h1, hF with
                          | [r0, r1, r2, r3, r4, r5, r6, r7, r8, r9], _, hF =>
                            have k7 := hF 7 _ rfl
                            obtain ⟨a, b, a2, b2, rfl⟩ := k7
                            clear hF
                            show ChStep _ _ _ _ _ true _ _ _ _
                            generalize hA : pup _ _ bs = A
                            have ev0 : A.eval (.tmp 114) = (.tuple #[.slice a l1 b, .slice a2 l2 b2, .int .i64 0]) := ev_new hA 7 (by decide) rfl rfl (by omega) rfl
                            clear hA
                            refine ChStep.pure (o := _) (v := (.int .i64 0)) rfl rfl rfl (fun W2 hS2 => ?_) rfl
                            have ev0 := ev_raw ev0
                            go_simp
                      case fin =>
                        intro rs ks W h1 h2 hS hF hok hbW
                        match rs, h1, hF with
                        | [r0, r1, r2, r3, r4, r5, r6, r7, r8, r9, r10], _, hF =>
                          obtain ⟨V1, q1, rfl⟩ := hF 8 _ rfl
                          obtain ⟨V2, q2, rfl⟩ := hF 9 _ rfl
                          obtain rfl : r10 = .int .i64 0 := hF 10 _ rfl
                          match ks, h2, hok with
                          | [], _, _ =>
                          have HK9 := Lib.hid hS.1
                          have HS9 := Lib.hid hS
                          subst ha0
                          simp only [pud, pup, List.map_nil, Act.put, List.setIfInBounds_toArray, List.set_cons_zero, List.set_cons_succ]
                          clear hF hS hHeld hbW ea12 ea6 ea14 hsz0 HI3 HCL HK8 hbm
                          refine wpAnyH_take (i := 11) (v := ?_) (op_at (r := _) rfl) (by kernel_rfl) (by kernel_rfl) (by kernel_rfl) (fun _ _ _ h => h) (Or.inl ⟨by rfl, ?_⟩) HS9.out ?_
                          rotate_left
                          · intro W2 hSw
                            obtain _ := hSw
                            go_simp
                            try with_reducible rfl
                          try simp only [Act.put, List.setIfInBounds_toArray, List.set_cons_zero, List.set_cons_succ]
                          refine wpAnyH_take (i := 12) (v := ?_) (op_at (r := _) rfl) (by kernel_rfl) (by kernel_rfl) (by kernel_rfl) (fun _ _ _ h => h) (Or.inl ⟨by rfl, ?_⟩) HS9.out ?_
                          rotate_left
                          · intro W2 hSw
                            obtain _ := hSw
                            go_simp
                            try with_reducible rfl
                          try simp only [Act.put, List.setIfInBounds_toArray, List.set_cons_zero, List.set_cons_succ]
                          refine wpAnyH_take (i := 13) (v := ?_) (op_at (r := _) rfl) (by kernel_rfl) (by kernel_rfl) (by kernel_rfl) (fun _ _ _ h => h) (Or.inl ⟨by rfl, ?_⟩) HS9.out ?_
                          rotate_left
                          · intro W2 hSw
                            obtain _ := hSw
                            go_simp
                            try with_reducible rfl
                          try simp only [Act.put, List.setIfInBounds_toArray, List.set_cons_zero, List.set_cons_succ]
                          refine wpAnyH_done (by kernel_rfl) ?_ _
                          refine NoPanic.normal ?_
                          have t1 : ((l1 : Int) != (l1 : Int)) = false := by simp
                          have t2 : ((l2 : Int) != (l2 : Int)) = false := by simp
                          go_wp2_with fail
                          go_roundw
                          case rel => exact ⟨i + 1, by omega, by go_num, HK9.out⟩
                          case measure => simp [intOf]; omega
                    · have e : i = g.ns.length := by omega
                      subst e
                      obtain ⟨c2, c3⟩ := HK.out.h.cells
                      obtain ⟨c4, c5⟩ := HK.out.b.cells
                      have y1 := HK.out.h.lt
                      have y2 := HK.out.b.lt
                      obtain ⟨lh1, lh2⟩ := HLH.out
                      have HRE := Lib.hid (reo_any h bm Hn hn He he (some ⟨gs, 0, none⟩) g.ns.length (some ⟨gt, 0, none⟩) g.es.length wr HVH.out (by rw [lh1]; exact HPB1.out) (by rw [lh2]; exact HPB2.out) HK.out.h.gr HK.out.b.mo)
                      rw [HRB.out] at HRE
                      clear lh1 lh2
                      go_wp2_with fail
                      refine HRE.out.mono ?_
                      rintro e w8 ⟨⟨v, rfl, ⟨Jn, jn, Je, je, rfl, hJ⟩⟩, hb8⟩
                      have HK8 := Lib.hid (HK.out.up hb8)
                      have HJ := Lib.hid hJ
                      clear hb8 hJ HK HRE c0 c1 c2 c3 c4 c5 y0 y1 y2
                      obtain ⟨c0, c1⟩ := HK8.out.l.g.cells
                      have y0 := HK8.out.l.g.lt
                      go_wp2_with fail
                      refine (sameR_any g g _ _ _ _ _ _ _ _ _ (HJ.out.up (below_a _ _)) (HK8.out.l.g.up (below_a _ _)).gr).mono ?_
                      rintro e w9 ⟨rfl, hb9⟩
                      have HBF := Lib.hid (((HK8.out.l.be.trans ((below_a w8 (.cells #[.slice Jn g.ns.length jn, .slice Je g.es.length je] 25 (0, 0))).mono HK8.out.l.be.size))).trans (hb9.mono (Nat.le_trans HK8.out.l.be.size (by simp))))
                      clear hb9
                      rw [decide_eq_true (p := g = g) rfl]
                      go_wp2_with fail
                      go_ret
                      exact ⟨rfl, HBF.out⟩

end Go.Proofs.Ytiafmhdicgmfaaa
