/-
  Graphs: GraphUnion.
-/
import Derived.Test.YtiafmhdicgmfaaaGLawR
import Derived.Test.YtiafmhdicgmfaaaGLawE
import Derived.Test.YtiafmhdicgmfaaaGUniR
import Derived.Test.YtiafmhdicgmfaaaChain
namespace Go.Proofs.Ytiafmhdicgmfaaa
open Go.RowKit

/-- a pair of slices is written into a box of slices: what reads elsewhere reads on -/
theorem Reads.set2 {α : Type} {E : El α} (hE : NoSl E) {w : World} {B : Nat} {A : Option Addr} {xs : List α} (h : Reads E w B A xs) {g : Nat} {a a' p : Option Addr} {n c n' c' q r : Nat} {t : TypeId} (hb : BoxIs g (.slice a n c) (.slice a' n' c') t w) (y : Value) : Reads E ((w.setCell ⟨g, 0, none⟩ (.slice p q r)).setCell ⟨g, 1, none⟩ y) B A xs :=
  (h.setBox hE hb 0 _).setBox hE (hb.set0 _) 1 _
theorem GrAt.set2 {w : World} {An : Option Addr} {cn : Nat} {Ae : Option Addr} {ce : Nat} {x : Gr} (h : GrAt w An cn Ae ce x) {g : Nat} {a a' p : Option Addr} {n c n' c' q r : Nat} {t : TypeId} (hb : BoxIs g (.slice a n c) (.slice a' n' c') t w) (y : Value) : GrAt ((w.setCell ⟨g, 0, none⟩ (.slice p q r)).setCell ⟨g, 1, none⟩ y) An cn Ae ce x :=
  ⟨by have := h.ns.set2 noSl_int (p := p) (q := q) (r := r) hb y; simpa using this, by have := h.es.set2 noSl_ed (p := p) (q := q) (r := r) hb y; simpa using this, h.cn, h.ce⟩
theorem MoAt.set2 {w : World} {An : Option Addr} {cn : Nat} {Ae : Option Addr} {ce : Nat} {x : Mo} (h : MoAt w An cn Ae ce x) {g : Nat} {a a' p : Option Addr} {n c n' c' q r : Nat} {t : TypeId} (hb : BoxIs g (.slice a n c) (.slice a' n' c') t w) (y : Value) : MoAt ((w.setCell ⟨g, 0, none⟩ (.slice p q r)).setCell ⟨g, 1, none⟩ y) An cn Ae ce x :=
  ⟨by have := h.ns.set2 noSl_int (p := p) (q := q) (r := r) hb y; simpa using this, by have := h.es.set2 noSl_int (p := p) (q := q) (r := r) hb y; simpa using this, h.cn, h.ce⟩
theorem BoxIs.far2 {g k : Nat} {u v x y : Value} {t : TypeId} {W : World} (h : BoxIs g u v t W) (hk : k ≠ g) : BoxIs g u v t ((W.setCell ⟨k, 0, none⟩ x).setCell ⟨k, 1, none⟩ y) := (h.set (p := ⟨k, 0, none⟩) hk x).set (p := ⟨k, 1, none⟩) hk y
theorem GB.set2 {h : Nat} {An : Option Addr} {cn : Nat} {Ae : Option Addr} {ce : Nat} {x : Gr} {W : World} (k : GB h An cn Ae ce x W) {g : Nat} {a a' p : Option Addr} {n c n' c' q r : Nat} {t : TypeId} (hb : BoxIs g (.slice a n c) (.slice a' n' c') t W) (hg : g ≠ h) (y : Value) : GB h An cn Ae ce x ((W.setCell ⟨g, 0, none⟩ (.slice p q r)).setCell ⟨g, 1, none⟩ y) := ⟨k.box.far2 hg, k.gr.set2 hb y⟩
theorem MB.set2 {h : Nat} {An : Option Addr} {cn : Nat} {Ae : Option Addr} {ce : Nat} {x : Mo} {W : World} (k : MB h An cn Ae ce x W) {g : Nat} {a a' p : Option Addr} {n c n' c' q r : Nat} {t : TypeId} (hb : BoxIs g (.slice a n c) (.slice a' n' c') t W) (hg : g ≠ h) (y : Value) : MB h An cn Ae ce x ((W.setCell ⟨g, 0, none⟩ (.slice p q r)).setCell ⟨g, 1, none⟩ y) := ⟨k.box.far2 hg, k.mo.set2 hb y⟩
theorem MB.store {w : World} {An : Option Addr} {cn : Nat} {Ae : Option Addr} {ce : Nat} {x : Mo} (h : MoAt w An cn Ae ce x) {g : Nat} {a a' : Option Addr} {n c n' c' : Nat} (hb : BoxIs g (.slice a n c) (.slice a' n' c') 40 w) :
    MB g An cn Ae ce x ((w.setCell ⟨g, 0, none⟩ (.slice An x.ns.length cn)).setCell ⟨g, 1, none⟩ (.slice Ae x.es.length ce)) := ⟨(hb.set0 _).set1 _, h.set2 hb _⟩

/-- a graph and two morphisms, each laid into a new box -/
theorem boxes_gmn {w : World} {An : Option Addr} {cn : Nat} {Ae : Option Addr} {ce : Nat} {g : Gr} {Bn : Option Addr} {dn : Nat} {Be : Option Addr} {de : Nat} {m : Mo} {Cn : Option Addr} {fn : Nat} {Ce : Option Addr} {fe : Nat} {n : Mo} (h1 : GrAt w An cn Ae ce g) (h2 : MoAt w Bn dn Be de m) (h3 : MoAt w Cn fn Ce fe n) {W : World}
    (hW : W = ((w.alloc (.cells #[.slice An g.ns.length cn, .slice Ae g.es.length ce] 25 (0, 0))).alloc (.cells #[.slice Bn m.ns.length dn, .slice Be m.es.length de] 40 (0, 0))).alloc (.cells #[.slice Cn n.ns.length fn, .slice Ce n.es.length fe] 40 (0, 0))) :
    GB w.heap.size An cn Ae ce g W ∧ MB (w.heap.size + 1) Bn dn Be de m W ∧ MB (w.heap.size + 2) Cn fn Ce fe n W ∧ Below w.heap.size w W := by
  obtain ⟨w2, hw2⟩ : ∃ w2, w2 = (w.alloc (.cells #[.slice An g.ns.length cn, .slice Ae g.es.length ce] 25 (0, 0))).alloc (.cells #[.slice Bn m.ns.length dn, .slice Be m.es.length de] 40 (0, 0)) := ⟨_, rfl⟩
  obtain ⟨q1, q2, q3⟩ := boxes_gm h1 h2 hw2
  have hs : w2.heap.size = w.heap.size + 2 := by rw [hw2]; simp
  rw [← hw2] at hW
  subst hW
  have hb := below_a w2 (.cells #[.slice Cn n.ns.length fn, .slice Ce n.es.length fe] 40 (0, 0))
  refine ⟨q1.up hb, q2.up hb, ⟨?_, (h3.up q3).up hb⟩, q3.trans (hb.mono q3.size)⟩
  rw [← hs]
  exact heap_alloc_new _ _

/-- the two arguments' boxes, and the world that was -/
structure UB (w : World) (a : Gr) (An : Option Addr) (cn : Nat) (Ae : Option Addr) (ce : Nat) (b : Gr) (Bn : Option Addr) (dn : Nat) (Be : Option Addr) (de : Nat) (W : World) : Prop where
  b0 : GB w.heap.size An cn Ae ce a W
  b1 : GB (w.heap.size + 1) Bn dn Be de b W
  be : Below w.heap.size w W
theorem UB.up {w : World} {a : Gr} {An : Option Addr} {cn : Nat} {Ae : Option Addr} {ce : Nat} {b : Gr} {Bn : Option Addr} {dn : Nat} {Be : Option Addr} {de : Nat} {W W' : World} (h : UB w a An cn Ae ce b Bn dn Be de W) (hb : Below W.heap.size W W') : UB w a An cn Ae ce b Bn dn Be de W' := ⟨h.b0.up hb, h.b1.up hb, h.be.trans (hb.mono h.be.size)⟩
theorem UB.start {w : World} {a : Gr} {An : Option Addr} {cn : Nat} {Ae : Option Addr} {ce : Nat} {b : Gr} {Bn : Option Addr} {dn : Nat} {Be : Option Addr} {de : Nat} (hA : GrAt w An cn Ae ce a) (hB : GrAt w Bn dn Be de b) :
    UB w a An cn Ae ce b Bn dn Be de ((w.alloc (.cells #[.slice An a.ns.length cn, .slice Ae a.es.length ce] 25 (0, 0))).alloc (.cells #[.slice Bn b.ns.length dn, .slice Be b.es.length de] 25 (0, 0))) := by
  have h1 := below_a w (.cells #[.slice An a.ns.length cn, .slice Ae a.es.length ce] 25 (0, 0))
  have h2 := (below_aa w (.cells #[.slice An a.ns.length cn, .slice Ae a.es.length ce] 25 (0, 0)) (.cells #[.slice Bn b.ns.length dn, .slice Be b.es.length de] 25 (0, 0)))
  exact ⟨⟨heap_two _ _ _, hA.up h2⟩, ⟨heap_two' _ _ _, hB.up h2⟩, h2⟩

theorem UB.set2 {w : World} {a : Gr} {An : Option Addr} {cn : Nat} {Ae : Option Addr} {ce : Nat} {b : Gr} {Bn : Option Addr} {dn : Nat} {Be : Option Addr} {de : Nat} {W : World} (h : UB w a An cn Ae ce b Bn dn Be de W) {g : Nat} {x x' p : Option Addr} {n c n' c' q r : Nat} {t : TypeId} (hb : BoxIs g (.slice x n c) (.slice x' n' c') t W) (hg : w.heap.size + 2 ≤ g) (y : Value) : UB w a An cn Ae ce b Bn dn Be de ((W.setCell ⟨g, 0, none⟩ (.slice p q r)).setCell ⟨g, 1, none⟩ y) :=
  ⟨h.b0.set2 hb (by omega) y, h.b1.set2 hb (by omega) y, (h.be.setCell (p := ⟨g, 0, none⟩) (show w.heap.size ≤ g by omega) _).setCell (p := ⟨g, 1, none⟩) (show w.heap.size ≤ g by omega) _⟩
/-- behind the first union -/
structure UC3 (w : World) (a : Gr) (An : Option Addr) (cn : Nat) (Ae : Option Addr) (ce : Nat) (b : Gr) (Bn : Option Addr) (dn : Nat) (Be : Option Addr) (de : Nat) (g1 : Nat) (Dn : Option Addr) (en : Nat) (De : Option Addr) (ee : Nat) (G : Gr) (g2 : Nat) (Mn : Option Addr) (mn : Nat) (Me : Option Addr) (me : Nat) (M : Mo) (g3 : Nat) (Nn : Option Addr) (nn : Nat) (Ne : Option Addr) (ne : Nat) (N : Mo) (W : World) : Prop where
  u : UB w a An cn Ae ce b Bn dn Be de W
  c1 : GB g1 Dn en De ee G W
  c2 : MB g2 Mn mn Me me M W
  c3 : MB g3 Nn nn Ne ne N W
theorem UC3.up {w : World} {a : Gr} {An : Option Addr} {cn : Nat} {Ae : Option Addr} {ce : Nat} {b : Gr} {Bn : Option Addr} {dn : Nat} {Be : Option Addr} {de : Nat} {g1 : Nat} {Dn : Option Addr} {en : Nat} {De : Option Addr} {ee : Nat} {G : Gr} {g2 : Nat} {Mn : Option Addr} {mn : Nat} {Me : Option Addr} {me : Nat} {M : Mo} {g3 : Nat} {Nn : Option Addr} {nn : Nat} {Ne : Option Addr} {ne : Nat} {N : Mo} {W W' : World}
    (h : UC3 w a An cn Ae ce b Bn dn Be de g1 Dn en De ee G g2 Mn mn Me me M g3 Nn nn Ne ne N W) (hb : Below W.heap.size W W') : UC3 w a An cn Ae ce b Bn dn Be de g1 Dn en De ee G g2 Mn mn Me me M g3 Nn nn Ne ne N W' := ⟨h.u.up hb, h.c1.up hb, h.c2.up hb, h.c3.up hb⟩

/-- what the region's values are, one after another -/
def UF (a : Gr) (An : Option Addr) (cn : Nat) (Ae : Option Addr) (ce : Nat) (b : Gr) (Bn : Option Addr) (dn : Nat) (Be : Option Addr) (de : Nat) (G : Gr) (M N : Mo) (R : Nat) : Nat → Value → World → Prop
  | 0, r, _ => r = gval An a.ns.length cn Ae a.es.length ce
  | 1, r, _ => r = gval Bn b.ns.length dn Be b.es.length de
  | 2, r, W => IsG W r a
  | 3, r, W => IsG W r b
  | 4, r, W => ∃ v p q, r = .tuple #[v, p, q, .int .i64 (R : Nat)] ∧ IsG W v G ∧ IsM W p M ∧ IsM W q N
  | 5, r, W => ∃ v p q, r = .tuple #[v, p, q, .int .i64 (R : Nat)] ∧ IsG W v G ∧ IsM W p M ∧ IsM W q N
  | 6, r, W => IsG W r G
  | 7, r, W => IsM W r M
  | 8, r, W => IsM W r N
  | _, r, _ => r = .int .i64 (R : Nat)
theorem UF.up {a : Gr} {An : Option Addr} {cn : Nat} {Ae : Option Addr} {ce : Nat} {b : Gr} {Bn : Option Addr} {dn : Nat} {Be : Option Addr} {de : Nat} {G : Gr} {M N : Mo} {R : Nat} (j : Nat) (v : Value) (W W' : World) (h : UF a An cn Ae ce b Bn dn Be de G M N R j v W) (hb : Below W.heap.size W W') : UF a An cn Ae ce b Bn dn Be de G M N R j v W' := by
  unfold UF at h ⊢
  split at h
  · exact h
  · exact h
  · exact IsG.up h hb
  · exact IsG.up h hb
  · obtain ⟨v, p, q, e, h1, h2, h3⟩ := h; exact ⟨v, p, q, e, h1.up hb, h2.up hb, h3.up hb⟩
  · obtain ⟨v, p, q, e, h1, h2, h3⟩ := h; exact ⟨v, p, q, e, h1.up hb, h2.up hb, h3.up hb⟩
  · exact IsG.up h hb
  · exact IsM.up h hb
  · exact IsM.up h hb
  · exact h

set_option maxRecDepth 100000 in
set_option maxHeartbeats 4000000 in
theorem lawUnion (hUR : UniC 26) (a b : Gr) (An : Option Addr) (cn : Nat) (Ae : Option Addr) (ce : Nat) (Bn : Option Addr) (dn : Nat) (Be : Option Addr) (de : Nat) (w : World) (hA : GrAt w An cn Ae ce a) (hB : GrAt w Bn dn Be de b) :
    Calls Try.prog 6 #[gval An a.ns.length cn Ae a.es.length ce, gval Bn b.ns.length dn Be b.es.length de] w fun e w' => e = .returned (.bool true) ∧ Below w.heap.size w w' := by
  have HS0 := Lib.hid (UB.start hA hB)
  have HUP := Lib.hid (fun An cn Ae ce Bn dn Be de W => uniP a b An cn Ae ce Bn dn Be de W)
  have HUR := Lib.hid (fun An cn Ae ce Bn dn Be de W => hUR a b An cn Ae ce Bn dn Be de W)
  clear hA hB hUR
  generalize uniG a b = G at HUP HUR
  generalize uniM a b = M at HUP HUR
  generalize uniN a b = N at HUP HUR
  generalize uniE a b = R at HUP HUR
  go_enter Try.func6, Try.ntmps6
  go_wp2_with fail
  refine (awake_any _).mono ?_
  rintro e w1 ⟨rfl, hb1⟩
  have HS1 := Lib.hid (HS0.out.up hb1)
  clear hb1 HS0
  have HAG : Hid (∀ W, Below w.heap.size w W → Calls Try.prog 10 #[] W fun e w' => e = .returned (.bool true) ∧ Below w.heap.size w w') := Lib.hid fun W h => (awake_any W).mono fun e w' ⟨h1, h2⟩ => ⟨h1, h.trans (h2.mono h.size)⟩
  obtain ⟨c0, c1⟩ := HS1.out.b0.cells
  have z0 := HS1.out.b0.lt
  go_wp2_with fail
  refine (few_any a _ _ _ _ _ HS1.out.b0.gr).mono ?_
  rintro e w2 ⟨rfl, hb2⟩
  have HS2 := Lib.hid (HS1.out.up hb2)
  clear hb2 HS1 c0 c1 z0
  cases hf : fewB a with
  | false =>
    go_wp2_with fail
    refine (HAG.out _ HS2.out.be).mono ?_
    rintro e w3 ⟨rfl, hb3⟩
    have HBF := Lib.hid hb3
    clear hb3
    go_wp2_with fail
    go_ret
    exact ⟨rfl, HBF.out⟩
  | true =>
  have HFA := Lib.hid hf
  clear hf
  obtain ⟨c0, c1⟩ := HS2.out.b1.cells
  have z0 := HS2.out.b1.lt
  go_wp2_with fail
  refine (few_any b _ _ _ _ _ HS2.out.b1.gr).mono ?_
  rintro e w3 ⟨rfl, hb3⟩
  have HS3 := Lib.hid (HS2.out.up hb3)
  clear hb3 HS2 c0 c1 z0
  cases hf : fewB b with
  | false =>
    go_wp2_with fail
    refine (HAG.out _ HS3.out.be).mono ?_
    rintro e w4 ⟨rfl, hb4⟩
    have HBF := Lib.hid hb4
    clear hb4
    go_wp2_with fail
    go_ret
    exact ⟨rfl, HBF.out⟩
  | true =>
  have HFB := Lib.hid hf
  clear hf HAG
  go_wp2_with fail
  refine wp_region_noPanic ?_
  refine wp_region_held_drew (S := UB w a An cn Ae ce b Bn dn Be de) (by kernel_rfl) (HS3.out.up (below_d _)) (fun hHeld => ?_)
  refine wpAnyH_act (fun a0 ha0 => ?_)
  have ea2 : a0.eval (.tmp 2) = .pointer (some ⟨w.heap.size, 0, none⟩) := by rw [ha0]; rfl
  have ea3 : a0.eval (.tmp 3) = .pointer (some ⟨w.heap.size + 1, 0, none⟩) := by rw [ha0]; rfl
  have hsz0 : a0.tmps.size = 62 := by rw [ha0]; rfl
  refine chain_region (UB w a An cn Ae ce b Bn dn Be de) (UF a An cn Ae ce b Bn dn Be de G M N R) a0 _ [0, 2, 1, 3, 4, 5, 6, 7, 8, 9] [27, 29, 28, 30, 31, 26, 32, 33, 34, 35] [true, true, false, false, false, true, true, true, true, true]
    [⟨10, 5, .cells #[.slice none 0 0, .slice none 0 0] 25 (0, 0)⟩, ⟨11, 6, .cells #[.slice none 0 0, .slice none 0 0] 40 (0, 0)⟩, ⟨12, 7, .cells #[.slice none 0 0, .slice none 0 0] 40 (0, 0)⟩]
    _ 4 rfl (by decide) (by decide) (by kernel_rfl) (fun _ _ _ _ _ h => h) (by kernel_rfl) ?al (fun W W' h hb => h.up hb) UF.up ?step ?fin hHeld _ rfl
  case al =>
    intro x hx
    simp only [List.mem_cons, List.not_mem_nil, or_false] at hx
    rcases hx with rfl | rfl | rfl
    all_goals
      refine ⟨_, rfl, rfl, fun A W => ⟨rfl, ?_⟩⟩
      go_simp
  case step =>
    intro c i d rs bs W h1 h2 h3 h4 hS hF hsz
    have hc : c < 10 := (List.getElem?_eq_some_iff.1 h3).1
    have hc : c = 0 ∨ c = 1 ∨ c = 2 ∨ c = 3 ∨ c = 4 ∨ c = 5 ∨ c = 6 ∨ c = 7 ∨ c = 8 ∨ c = 9 := by omega
    clear h2 hsz
    rcases hc with rfl | rfl | rfl | rfl | rfl | rfl | rfl | rfl | rfl | rfl
    · simp only [List.getElem?_cons_zero, Option.some.injEq] at h3 h4
      subst h3 h4
      match rs, h1, hF with
      | [], _, hF =>
        clear hF
        show ChStep _ _ _ _ _ true _ _ _ _
        generalize hA : pup _ _ bs = A
        have ev0 : A.eval (.tmp 2) = .pointer (some ⟨w.heap.size, 0, none⟩) := ev_old hA ea2 rfl rfl
        clear hA
        refine ChStep.pure (o := _) (v := (gval An a.ns.length cn Ae a.es.length ce)) rfl rfl rfl (fun W2 hS2 => ?_) rfl
        obtain ⟨c0, c1⟩ := hS2.b0.cells
        have ev0 := ev_raw ev0
        go_simp
    · simp only [List.getElem?_cons_zero, List.getElem?_cons_succ, Option.some.injEq] at h3 h4
      subst h3 h4
      match rs, h1, hF with
      | [r0], _, hF =>
        clear hF
        show ChStep _ _ _ _ _ true _ _ _ _
        generalize hA : pup _ _ bs = A
        have ev0 : A.eval (.tmp 3) = .pointer (some ⟨w.heap.size + 1, 0, none⟩) := ev_old hA ea3 rfl rfl
        clear hA
        refine ChStep.pure (o := _) (v := (gval Bn b.ns.length dn Be b.es.length de)) rfl rfl rfl (fun W2 hS2 => ?_) rfl
        obtain ⟨c0, c1⟩ := hS2.b1.cells
        have ev0 := ev_raw ev0
        go_simp
    · simp only [List.getElem?_cons_zero, List.getElem?_cons_succ, Option.some.injEq] at h3 h4
      subst h3 h4
      match rs, h1, hF with
      | [r0, r1], _, hF =>
        have k0 := hF 0 _ rfl
        obtain rfl : r0 = _ := k0
        clear hF
        show ChStep _ _ _ _ _ false _ _ _ _
        generalize hA : pup _ _ bs = A
        have ev0 : A.eval (.tmp 27) = (gval An a.ns.length cn Ae a.es.length ce) := ev_new hA 0 (by decide) rfl rfl (by omega) rfl
        clear hA
        refine ChStep.call (o := _) (f := 13) (xs := _) (ts := _) (args := #[(gval An a.ns.length cn Ae a.es.length ce)]) rfl rfl rfl rfl (by simp only [List.map_toArray, List.map_cons, List.map_nil, ev0]) (by kernel_rfl) ?_
        exact (copyG_any a An cn Ae ce W HFA.out hS.b0.gr).mono fun e w2 ⟨⟨Cn, fn, Ce, fe, he, hg⟩, hb⟩ => ⟨⟨_, he, ⟨Cn, fn, Ce, fe, rfl, hg⟩⟩, hb⟩
    · simp only [List.getElem?_cons_zero, List.getElem?_cons_succ, Option.some.injEq] at h3 h4
      subst h3 h4
      match rs, h1, hF with
      | [r0, r1, r2], _, hF =>
        have k1 := hF 1 _ rfl
        obtain rfl : r1 = _ := k1
        clear hF
        show ChStep _ _ _ _ _ false _ _ _ _
        generalize hA : pup _ _ bs = A
        have ev0 : A.eval (.tmp 29) = (gval Bn b.ns.length dn Be b.es.length de) := ev_new hA 1 (by decide) rfl rfl (by omega) rfl
        clear hA
        refine ChStep.call (o := _) (f := 13) (xs := _) (ts := _) (args := #[(gval Bn b.ns.length dn Be b.es.length de)]) rfl rfl rfl rfl (by simp only [List.map_toArray, List.map_cons, List.map_nil, ev0]) (by kernel_rfl) ?_
        exact (copyG_any b Bn dn Be de W HFB.out hS.b1.gr).mono fun e w2 ⟨⟨Cn, fn, Ce, fe, he, hg⟩, hb⟩ => ⟨⟨_, he, ⟨Cn, fn, Ce, fe, rfl, hg⟩⟩, hb⟩
    · simp only [List.getElem?_cons_zero, List.getElem?_cons_succ, Option.some.injEq] at h3 h4
      subst h3 h4
      match rs, h1, hF with
      | [r0, r1, r2, r3], _, hF =>
        have k2 := hF 2 _ rfl
        have k3 := hF 3 _ rfl
        obtain ⟨Cn, fn, Ce, fe, rfl, hC⟩ := k2
        obtain ⟨Dn, gn, De, ge, rfl, hD⟩ := k3
        clear hF
        show ChStep _ _ _ _ _ false _ _ _ _
        generalize hA : pup _ _ bs = A
        have ev0 : A.eval (.tmp 28) = (gval Cn a.ns.length fn Ce a.es.length fe) := ev_new hA 2 (by decide) rfl rfl (by omega) rfl
        have ev1 : A.eval (.tmp 30) = (gval Dn b.ns.length gn De b.es.length ge) := ev_new hA 3 (by decide) rfl rfl (by omega) rfl
        clear hA
        refine ChStep.call (o := _) (f := 25) (xs := _) (ts := _) (args := #[(gval Cn a.ns.length fn Ce a.es.length fe), (gval Dn b.ns.length gn De b.es.length ge)]) rfl rfl rfl rfl (by simp only [List.map_toArray, List.map_cons, List.map_nil, ev0, ev1]) (by kernel_rfl) ?_
        exact (HUP.out _ _ _ _ _ _ _ _ _ hC hD).mono fun e w2 ⟨⟨v, p, q, he, h⟩, hb⟩ => ⟨⟨_, he, v, p, q, rfl, h⟩, hb⟩
    · simp only [List.getElem?_cons_zero, List.getElem?_cons_succ, Option.some.injEq] at h3 h4
      subst h3 h4
      match rs, h1, hF with
      | [r0, r1, r2, r3, r4], _, hF =>
        have k4 := hF 4 _ rfl
        obtain ⟨v, p, q, rfl, hv⟩ := k4
        clear hF
        show ChStep _ _ _ _ _ true _ _ _ _
        generalize hA : pup _ _ bs = A
        have ev0 : A.eval (.tmp 31) = .tuple #[v, p, q, .int .i64 (R : Nat)] := ev_new hA 4 (by decide) rfl rfl (by omega) rfl
        clear hA
        refine ChStep.pure (o := _) (v := (.tuple #[v, p, q, .int .i64 (R : Nat)])) rfl rfl rfl (fun W2 hS2 => ?_) ⟨v, p, q, rfl, hv⟩
        have ev0 := ev_raw ev0
        go_simp
    · simp only [List.getElem?_cons_zero, List.getElem?_cons_succ, Option.some.injEq] at h3 h4
      subst h3 h4
      match rs, h1, hF with
      | [r0, r1, r2, r3, r4, r5], _, hF =>
        have k5 := hF 5 _ rfl
        obtain ⟨v, p, q, rfl, hv⟩ := k5
        clear hF
        show ChStep _ _ _ _ _ true _ _ _ _
        generalize hA : pup _ _ bs = A
        have ev0 : A.eval (.tmp 26) = .tuple #[v, p, q, .int .i64 (R : Nat)] := ev_new hA 5 (by decide) rfl rfl (by omega) rfl
        clear hA
        refine ChStep.pure (o := _) (v := v) rfl rfl rfl (fun W2 hS2 => ?_) hv.1
        have ev0 := ev_raw ev0
        go_simp
    · simp only [List.getElem?_cons_zero, List.getElem?_cons_succ, Option.some.injEq] at h3 h4
      subst h3 h4
      match rs, h1, hF with
      | [r0, r1, r2, r3, r4, r5, r6], _, hF =>
        have k5 := hF 5 _ rfl
        obtain ⟨v, p, q, rfl, hv⟩ := k5
        clear hF
        show ChStep _ _ _ _ _ true _ _ _ _
        generalize hA : pup _ _ bs = A
        have ev0 : A.eval (.tmp 26) = .tuple #[v, p, q, .int .i64 (R : Nat)] := ev_new hA 5 (by decide) rfl rfl (by omega) rfl
        clear hA
        refine ChStep.pure (o := _) (v := p) rfl rfl rfl (fun W2 hS2 => ?_) hv.2.1
        have ev0 := ev_raw ev0
        go_simp
    · simp only [List.getElem?_cons_zero, List.getElem?_cons_succ, Option.some.injEq] at h3 h4
      subst h3 h4
      match rs, h1, hF with
      | [r0, r1, r2, r3, r4, r5, r6, r7], _, hF =>
        have k5 := hF 5 _ rfl
        obtain ⟨v, p, q, rfl, hv⟩ := k5
        clear hF
        show ChStep _ _ _ _ _ true _ _ _ _
        generalize hA : pup _ _ bs = A
        have ev0 : A.eval (.tmp 26) = .tuple #[v, p, q, .int .i64 (R : Nat)] := ev_new hA 5 (by decide) rfl rfl (by omega) rfl
        clear hA
        refine ChStep.pure (o := _) (v := q) rfl rfl rfl (fun W2 hS2 => ?_) hv.2.2
        have ev0 := ev_raw ev0
        go_simp
    · simp only [List.getElem?_cons_zero, List.getElem?_cons_succ, Option.some.injEq] at h3 h4
      subst h3 h4
      match rs, h1, hF with
      | [r0, r1, r2, r3, r4, r5, r6, r7, r8], _, hF =>
        have k5 := hF 5 _ rfl
        obtain ⟨v, p, q, rfl, hv⟩ := k5
        clear hF
        show ChStep _ _ _ _ _ true _ _ _ _
        generalize hA : pup _ _ bs = A
        have ev0 : A.eval (.tmp 26) = .tuple #[v, p, q, .int .i64 (R : Nat)] := ev_new hA 5 (by decide) rfl rfl (by omega) rfl
        clear hA
        refine ChStep.pure (o := _) (v := (.int .i64 (R : Nat))) rfl rfl rfl (fun W2 hS2 => ?_) rfl
        have ev0 := ev_raw ev0
        go_simp
  case fin =>
    intro rs ks W h1 h2 hS hF hok hbW
    match rs, h1, hF with
    | [r0, r1, r2, r3, r4, r5, r6, r7, r8, r9], _, hF =>
      obtain ⟨Dn, en, De, ee, rfl, hG⟩ := hF 6 _ rfl
      obtain ⟨Mn, mn, Me, me, rfl, hM⟩ := hF 7 _ rfl
      obtain ⟨Nn, nn, Ne, ne, rfl, hN⟩ := hF 8 _ rfl
      obtain rfl : r9 = .int .i64 (R : Nat) := hF 9 _ rfl
      clear hF
      match ks, h2, hok with
      | [g1, g2, g3], _, hok =>
        obtain ⟨o1, o2, o3, _⟩ := hok
        obtain ⟨p1, l1, n1⟩ := o1 g1 rfl
        obtain ⟨p2, l2, n2⟩ := o2 g2 rfl
        obtain ⟨p3, l3, _⟩ := o3 g3 rfl
        have n12 : g1 ≠ g2 := fun e => n1 (by rw [e]; simp)
        have n13 : g1 ≠ g3 := fun e => n1 (by rw [e]; simp)
        have n23 : g2 ≠ g3 := fun e => n2 (by rw [e]; simp)
        have hw3 : w.heap.size + 2 ≤ w3.drew.heap.size := by have := HS3.out.b1.lt; simp; omega
        clear o1 o2 o3 n1 n2 ea2 ea3 hsz0
        have p1 : BoxIs g1 (.slice none 0 0) (.slice none 0 0) 25 W := p1
        have p2 : BoxIs g2 (.slice none 0 0) (.slice none 0 0) 40 W := p2
        have p3 : BoxIs g3 (.slice none 0 0) (.slice none 0 0) 40 W := p3
        have u1 := hS.set2 (p := Dn) (q := G.ns.length) (r := en) p1 (by omega) (.slice De G.es.length ee)
        have G1 := GB.store hG p1
        have M1 := hM.set2 (p := Dn) (q := G.ns.length) (r := en) p1 (.slice De G.es.length ee)
        have N1 := hN.set2 (p := Dn) (q := G.ns.length) (r := en) p1 (.slice De G.es.length ee)
        have p21 := p2.far2 (x := .slice Dn G.ns.length en) (y := .slice De G.es.length ee) n12
        have p31 := p3.far2 (x := .slice Dn G.ns.length en) (y := .slice De G.es.length ee) n13
        obtain ⟨q0, q1⟩ := p1.cells
        have f0 := p1.free 0
        have f1 := p1.free 1
        subst ha0
        simp only [pud, pup, List.map_cons, List.map_nil, Act.put, List.setIfInBounds_toArray, List.set_cons_zero, List.set_cons_succ]
        have U1 := Lib.hid u1
        have G1 := Lib.hid G1
        have M1 := Lib.hid M1
        have N1 := Lib.hid N1
        have P21 := Lib.hid p21
        have P31 := Lib.hid p31
        have HL2 := Lib.hid (show w.heap.size + 2 ≤ g2 by omega)
        have HL3 := Lib.hid (show w.heap.size + 2 ≤ g3 by omega)
        have HN12 := Lib.hid n12
        have HN13 := Lib.hid n13
        have HN23 := Lib.hid n23
        clear u1 p21 p31 p1 p2 p3 hG hM hN hS l1 l2 l3 n12 n13 n23 hw3 hbW hHeld
        refine wpAnyH_ready (rs := [13]) (by kernel_rfl) (by simp) ?_
        refine AllReadyH.cons (oper_at (r := _) rfl) (fun K hK => ?_) AllReadyH.nil
        go_simp
        refine hK.out _ _ U1.out (fun _ => ?_)
        clear hK K q0 q1 f0 f1
        generalize (W.setCell ⟨g1, 0, none⟩ (.slice Dn G.ns.length en)).setCell ⟨g1, 1, none⟩ (.slice De G.es.length ee) = W1 at *
        try simp only [Act.put, List.setIfInBounds_toArray, List.set_cons_zero, List.set_cons_succ]
        have U2 := Lib.hid (U1.out.set2 (p := Mn) (q := M.ns.length) (r := mn) P21.out HL2.out (.slice Me M.es.length me))
        have G2 := Lib.hid (G1.out.set2 (p := Mn) (q := M.ns.length) (r := mn) P21.out HN12.out.symm (.slice Me M.es.length me))
        have M2 := Lib.hid (MB.store M1.out P21.out)
        have N2 := Lib.hid (N1.out.set2 (p := Mn) (q := M.ns.length) (r := mn) P21.out (.slice Me M.es.length me))
        have P32 := Lib.hid (P31.out.far2 (x := .slice Mn M.ns.length mn) (y := .slice Me M.es.length me) HN23.out)
        obtain ⟨q0, q1⟩ := P21.out.cells
        have f0 := P21.out.free 0
        have f1 := P21.out.free 1
        clear U1 G1 M1 N1 P21 P31
        refine wpAnyH_ready (rs := [14]) (by kernel_rfl) (by simp) ?_
        refine AllReadyH.cons (oper_at (r := _) rfl) (fun K hK => ?_) AllReadyH.nil
        go_simp
        refine hK.out _ _ U2.out (fun _ => ?_)
        clear hK K q0 q1 f0 f1
        generalize (W1.setCell ⟨g2, 0, none⟩ (.slice Mn M.ns.length mn)).setCell ⟨g2, 1, none⟩ (.slice Me M.es.length me) = W2 at *
        try simp only [Act.put, List.setIfInBounds_toArray, List.set_cons_zero, List.set_cons_succ]
        have H3 := Lib.hid (show UC3 w a An cn Ae ce b Bn dn Be de g1 Dn en De ee G g2 Mn mn Me me M g3 Nn nn Ne ne N _ from ⟨U2.out.set2 (p := Nn) (q := N.ns.length) (r := nn) P32.out HL3.out (.slice Ne N.es.length ne), G2.out.set2 P32.out HN13.out.symm _, M2.out.set2 P32.out HN23.out.symm _, MB.store N2.out P32.out⟩)
        obtain ⟨q0, q1⟩ := P32.out.cells
        have f0 := P32.out.free 0
        have f1 := P32.out.free 1
        clear U2 G2 M2 N2 P32 HL2 HL3 HN12 HN13 HN23
        refine wpAnyH_ready (rs := [15]) (by kernel_rfl) (by simp) ?_
        refine AllReadyH.cons (oper_at (r := _) rfl) (fun K hK => ?_) AllReadyH.nil
        go_simp
        refine hK.out _ _ H3.out.u (fun _ => ?_)
        clear hK K q0 q1 f0 f1
        generalize (W2.setCell ⟨g3, 0, none⟩ (.slice Nn N.ns.length nn)).setCell ⟨g3, 1, none⟩ (.slice Ne N.es.length ne) = w4 at *
        try simp only [Act.put, List.setIfInBounds_toArray, List.set_cons_zero, List.set_cons_succ]
        refine wpAnyH_take (i := 16) (v := ?_) (oper_at (r := _) rfl) (by kernel_rfl) (by kernel_rfl) (by kernel_rfl) (fun _ _ _ h => h) (Or.inl ⟨by rfl, ?_⟩) H3.out.u ?_
        rotate_left
        · intro w hSw
          go_simp
          try with_reducible rfl
        try simp only [Act.put, List.setIfInBounds_toArray, List.set_cons_zero, List.set_cons_succ]
        refine wpAnyH_done (by kernel_rfl) ?_ _
        refine NoPanic.normal ?_
        clear HUP
        obtain ⟨c0, c1⟩ := H3.out.u.b0.cells
        obtain ⟨c2, c3⟩ := H3.out.u.b1.cells
        have z0 := H3.out.u.b0.lt
        have z1 := H3.out.u.b1.lt
        go_wp2_with fail
        refine (HUR.out _ _ _ _ _ _ _ _ _ H3.out.u.b0.gr H3.out.u.b1.gr).mono ?_
        rintro e w5 ⟨⟨v, p, q, rfl, ⟨Xn, xn, Xe, xe, rfl, hX⟩, ⟨Yn, yn, Ye, ye, rfl, hY⟩, ⟨Zn, zn, Ze, ze, rfl, hZ⟩⟩, hb5⟩
        have H5 := Lib.hid (H3.out.up hb5)
        have HX := Lib.hid hX
        have HY := Lib.hid hY
        have HZ := Lib.hid hZ
        clear hb5 hX hY hZ H3 HUR c0 c1 c2 c3 z0 z1
        have tR : ((R : Int) == (R : Int)) = true := by simp
        obtain ⟨c0, c1⟩ := H5.out.c1.cells
        have z0 := H5.out.c1.lt
        have z1 : g1 < w5.heap.size + 1 := by omega
        have z2 : g1 < w5.heap.size + 1 + 1 := by omega
        go_wp2_with fail
        obtain ⟨w8, hw8⟩ : ∃ w8, w8 = ((w5.alloc (.cells #[.slice Xn G.ns.length xn, .slice Xe G.es.length xe] 25 (0, 0))).alloc (.cells #[.slice Yn M.ns.length yn, .slice Ye M.es.length ye] 40 (0, 0))).alloc (.cells #[.slice Zn N.ns.length zn, .slice Ze N.es.length ze] 40 (0, 0)) := ⟨_, rfl⟩
        obtain ⟨q1, q2, q3, q4⟩ := boxes_gmn HX.out HY.out HZ.out hw8
        have H8 := Lib.hid (H5.out.up q4)
        have HX8 := Lib.hid q1
        have HY8 := Lib.hid q2
        have HZ8 := Lib.hid q3
        rw [← hw8]
        clear q1 q2 q3 q4 hw8 H5 HX HY HZ c0 c1 z0 z1 z2
        refine (sameR_any G G _ _ _ _ _ _ _ _ _ H8.out.c1.gr HX8.out.gr).mono ?_
        rintro e w9 ⟨rfl, hb9⟩
        have H9 := Lib.hid (H8.out.up hb9)
        have HY9 := Lib.hid (HY8.out.up hb9)
        have HZ9 := Lib.hid (HZ8.out.up hb9)
        clear hb9 H8 HX8 HY8 HZ8
        rw [decide_eq_true (p := G = G) rfl]
        obtain ⟨c0, c1⟩ := H9.out.c2.cells
        obtain ⟨c2, c3⟩ := HY9.out.cells
        have z0 := H9.out.c2.lt
        have z1 := HY9.out.lt
        go_wp2_with fail
        refine (sameM_any M M _ _ _ _ _ _ _ _ _ H9.out.c2.mo HY9.out.mo).mono ?_
        rintro e w10 ⟨rfl, hb10⟩
        have H10 := Lib.hid (H9.out.up hb10)
        have HZ10 := Lib.hid (HZ9.out.up hb10)
        clear hb10 H9 HY9 HZ9 c0 c1 c2 c3 z0 z1
        rw [decide_eq_true (p := M = M) rfl]
        obtain ⟨c0, c1⟩ := H10.out.c3.cells
        obtain ⟨c2, c3⟩ := HZ10.out.cells
        have z0 := H10.out.c3.lt
        have z1 := HZ10.out.lt
        go_wp2_with fail
        refine (sameM_any N N _ _ _ _ _ _ _ _ _ H10.out.c3.mo HZ10.out.mo).mono ?_
        rintro e w11 ⟨rfl, hb11⟩
        have HBF := Lib.hid (H10.out.up hb11).u.be
        clear hb11
        rw [decide_eq_true (p := N = N) rfl]
        go_wp2_with fail
        go_ret
        exact ⟨rfl, HBF.out⟩

theorem lawU (a : Gr) (An : Option Addr) (cn : Nat) (Ae : Option Addr) (ce : Nat) (b : Gr) (Bn : Option Addr) (dn : Nat) (Be : Option Addr) (de : Nat) (w : World) (hA : GrAt w An cn Ae ce a) (hB : GrAt w Bn dn Be de b) :
    Calls Try.prog 6 #[gval An a.ns.length cn Ae a.es.length ce, gval Bn b.ns.length dn Be b.es.length de] w fun e w' => e = .returned (.bool true) ∧ Below w.heap.size w w' := lawUnion uniR a b An cn Ae ce Bn dn Be de w hA hB

end Go.Proofs.Ytiafmhdicgmfaaa
