/-
  Graphs: GraphParts. (Printed by mklawp.py.)
-/
import Derived.Test.YtiafmhdicgmfaaaGLawU
import Derived.Test.YtiafmhdicgmfaaaGMade
import Derived.Test.YtiafmhdicgmfaaaGAt
import Derived.Test.YtiafmhdicgmfaaaGLawI
namespace Go.Proofs.Ytiafmhdicgmfaaa
open Go.RowKit

theorem flat_succ {ps : List Mo} (f : Mo → List Int) {k : Nat} (h : k < ps.length) : (ps.take (k + 1)).flatMap f = (ps.take k).flatMap f ++ f ps[k] := by
  rw [List.take_add_one, List.getElem?_eq_getElem h, List.flatMap_append]
  simp only [Option.toList, List.flatMap_cons, List.flatMap_nil, List.append_nil]
theorem flat_len (f : Mo → List Int) (ps : List Mo) (k : Nat) : ((ps.take k).flatMap f).length ≤ (ps.flatMap f).length := by
  have h : ps.flatMap f = (ps.take k).flatMap f ++ (ps.drop k).flatMap f := by rw [← List.flatMap_append, List.take_append_drop]
  rw [h, List.length_append]
  omega
/-- what a union is, beside its two graphs -/
structure PF (a b G : Gr) (M N : Mo) : Prop where
  r1 : remE G M.ns M.es = 0
  r2 : remG G M.ns M.es = b
  r3 : remE G N.ns N.es = 0
  r4 : remG G N.ns N.es = a
  v : validE G = 0
  va : validE a = 0
  vb : validE b = 0
  cl : (compR G).length = (compR a).length + (compR b).length
  sn : srt ((compR G).flatMap (·.ns)) = numS 0 G.ns.length
  se : srt ((compR G).flatMap (·.es)) = numS 0 G.es.length
  l : (G.ns.length ≤ 40 ∧ G.es.length ≤ 80) ∧ (M.ns.length ≤ 1000 ∧ M.es.length ≤ 1000) ∧ (N.ns.length ≤ 1000 ∧ N.es.length ≤ 1000)
  fl : ((compR G).flatMap (·.ns)).length = G.ns.length ∧ ((compR G).flatMap (·.es)).length = G.es.length
theorem parts_facts {a b : Gr} (h : uniE a b = 0) : PF a b (uniG a b) (uniM a b) (uniN a b) := by
  obtain ⟨h1, h2, h3, h4⟩ := uni_zero h
  have hv := uni_valid h
  have eM : uniM a b = ⟨numS (0 : Nat) a.ns.length, numS (0 : Nat) a.es.length⟩ := if_pos h
  have eN : uniN a b = ⟨numS a.ns.length b.ns.length, numS a.es.length b.es.length⟩ := if_pos h
  obtain ⟨l1, l2⟩ := uni_lens a b
  have p1 := comp_nodes hv
  have p2 := comp_edges hv
  rw [uniG_ok h, eM, eN]
  refine ⟨(rem_first h).1, (rem_first h).2, (rem_second h).1, (rem_second h).2, hv, h1, h2, comp_uni h, sort_num p1, sort_num p2, ⟨⟨by omega, by omega⟩, ⟨?_, ?_⟩, ?_, ?_⟩, ?_, ?_⟩
  · show (numS _ _).length ≤ 1000; rw [num_length]; omega
  · show (numS _ _).length ≤ 1000; rw [num_length]; omega
  · show (numS _ _).length ≤ 1000; rw [num_length]; omega
  · show (numS _ _).length ≤ 1000; rw [num_length]; omega
  · rw [p1.length_eq, num_length]
  · rw [p2.length_eq, num_length]

/-- a box that holds a draft -/
structure DB (h : Nat) (An : Option Addr) (cn : Nat) (Ae : Option Addr) (ce : Nat) (d : Dr) (W : World) : Prop where
  box : BoxIs h (.slice An d.ns.length cn) (.slice Ae d.es.length ce) 58 W
  dr : DrAt W An cn Ae ce d
theorem DB.up {h : Nat} {An : Option Addr} {cn : Nat} {Ae : Option Addr} {ce : Nat} {d : Dr} {W W' : World} (k : DB h An cn Ae ce d W) (hb : Below W.heap.size W W') : DB h An cn Ae ce d W' := ⟨k.box.up hb, k.dr.up hb⟩
structure PB (w : World) (x : Dr) (An : Option Addr) (cn : Nat) (Ae : Option Addr) (ce : Nat) (y : Dr) (Bn : Option Addr) (dn : Nat) (Be : Option Addr) (de : Nat) (W : World) : Prop where
  b0 : DB w.heap.size An cn Ae ce x W
  b1 : DB (w.heap.size + 1) Bn dn Be de y W
  be : Below w.heap.size w W
theorem PB.up {w : World} {x : Dr} {An : Option Addr} {cn : Nat} {Ae : Option Addr} {ce : Nat} {y : Dr} {Bn : Option Addr} {dn : Nat} {Be : Option Addr} {de : Nat} {W W' : World} (h : PB w x An cn Ae ce y Bn dn Be de W) (hb : Below W.heap.size W W') : PB w x An cn Ae ce y Bn dn Be de W' := ⟨h.b0.up hb, h.b1.up hb, h.be.trans (hb.mono h.be.size)⟩
theorem PB.start {w : World} {x : Dr} {An : Option Addr} {cn : Nat} {Ae : Option Addr} {ce : Nat} {y : Dr} {Bn : Option Addr} {dn : Nat} {Be : Option Addr} {de : Nat} (hA : DrAt w An cn Ae ce x) (hB : DrAt w Bn dn Be de y) :
    PB w x An cn Ae ce y Bn dn Be de ((w.alloc (.cells #[.slice An x.ns.length cn, .slice Ae x.es.length ce] 58 (0, 0))).alloc (.cells #[.slice Bn y.ns.length dn, .slice Be y.es.length de] 58 (0, 0))) := by
  have h2 := (below_aa w (.cells #[.slice An x.ns.length cn, .slice Ae x.es.length ce] 58 (0, 0)) (.cells #[.slice Bn y.ns.length dn, .slice Be y.es.length de] 58 (0, 0)))
  exact ⟨⟨heap_two _ _ _, hA.up h2⟩, ⟨heap_two' _ _ _, hB.up h2⟩, h2⟩
theorem noSl_by : NoSl EBy := fun x u h a n c e => by simp [EBy] at h; rw [h] at e; cases e
theorem noSl_b3 : NoSl EB3 := fun x u h a n c e => by simp [EB3] at h; rcases h with h | h | h <;> · rw [h] at e; cases e
theorem DrAt.set2 {w : World} {An : Option Addr} {cn : Nat} {Ae : Option Addr} {ce : Nat} {x : Dr} (h : DrAt w An cn Ae ce x) {g : Nat} {a a' p : Option Addr} {n c n' c' q r : Nat} {t : TypeId} (hb : BoxIs g (.slice a n c) (.slice a' n' c') t w) (y : Value) : DrAt ((w.setCell ⟨g, 0, none⟩ (.slice p q r)).setCell ⟨g, 1, none⟩ y) An cn Ae ce x :=
  ⟨by have := h.ns.set2 noSl_by (p := p) (q := q) (r := r) hb y; simpa using this, by have := h.es.set2 noSl_b3 (p := p) (q := q) (r := r) hb y; simpa using this, h.cn, h.ce, h.ok⟩
theorem DB.set2 {h : Nat} {An : Option Addr} {cn : Nat} {Ae : Option Addr} {ce : Nat} {x : Dr} {W : World} (k : DB h An cn Ae ce x W) {g : Nat} {a a' p : Option Addr} {n c n' c' q r : Nat} {t : TypeId} (hb : BoxIs g (.slice a n c) (.slice a' n' c') t W) (hg : g ≠ h) (y : Value) : DB h An cn Ae ce x ((W.setCell ⟨g, 0, none⟩ (.slice p q r)).setCell ⟨g, 1, none⟩ y) := ⟨k.box.far2 hg, k.dr.set2 hb y⟩
theorem PB.set2 {w : World} {x : Dr} {An : Option Addr} {cn : Nat} {Ae : Option Addr} {ce : Nat} {y : Dr} {Bn : Option Addr} {dn : Nat} {Be : Option Addr} {de : Nat} {W : World} (h : PB w x An cn Ae ce y Bn dn Be de W) {g : Nat} {u u' p : Option Addr} {n c n' c' q r : Nat} {t : TypeId} (hb : BoxIs g (.slice u n c) (.slice u' n' c') t W) (hg : w.heap.size + 2 ≤ g) (z : Value) : PB w x An cn Ae ce y Bn dn Be de ((W.setCell ⟨g, 0, none⟩ (.slice p q r)).setCell ⟨g, 1, none⟩ z) :=
  ⟨h.b0.set2 hb (by omega) z, h.b1.set2 hb (by omega) z, (h.be.setCell (p := ⟨g, 0, none⟩) (show w.heap.size ≤ g by omega) _).setCell (p := ⟨g, 1, none⟩) (show w.heap.size ≤ g by omega) _⟩
def PV (x : Dr) (An : Option Addr) (cn : Nat) (Ae : Option Addr) (ce : Nat) (y : Dr) (Bn : Option Addr) (dn : Nat) (Be : Option Addr) (de : Nat) (a b : Gr) : Nat → Value → World → Prop
  | 0, r, _ => r = gval An x.ns.length cn Ae x.es.length ce
  | 1, r, _ => r = gval Bn y.ns.length dn Be y.es.length de
  | 2, r, W => IsG W r a
  | _, r, W => IsG W r b
theorem PV.up {x : Dr} {An : Option Addr} {cn : Nat} {Ae : Option Addr} {ce : Nat} {y : Dr} {Bn : Option Addr} {dn : Nat} {Be : Option Addr} {de : Nat} {a b : Gr} (j : Nat) (v : Value) (W W' : World) (h : PV x An cn Ae ce y Bn dn Be de a b j v W) (hb : Below W.heap.size W W') : PV x An cn Ae ce y Bn dn Be de a b j v W' := by
  unfold PV at h ⊢
  split at h <;> first | exact h | exact IsG.up h hb
/-- two graphs in two boxes -/
structure QB (w : World) (g1 : Nat) (An : Option Addr) (cn : Nat) (Ae : Option Addr) (ce : Nat) (a : Gr) (g2 : Nat) (Bn : Option Addr) (dn : Nat) (Be : Option Addr) (de : Nat) (b : Gr) (W : World) : Prop where
  a : GB g1 An cn Ae ce a W
  b : GB g2 Bn dn Be de b W
  be : Below w.heap.size w W
theorem QB.up {w : World} {g1 : Nat} {An : Option Addr} {cn : Nat} {Ae : Option Addr} {ce : Nat} {a : Gr} {g2 : Nat} {Bn : Option Addr} {dn : Nat} {Be : Option Addr} {de : Nat} {b : Gr} {W W' : World} (h : QB w g1 An cn Ae ce a g2 Bn dn Be de b W) (hb : Below W.heap.size W W') : QB w g1 An cn Ae ce a g2 Bn dn Be de b W' := ⟨h.a.up hb, h.b.up hb, h.be.trans (hb.mono h.be.size)⟩

set_option maxRecDepth 100000 in
set_option maxHeartbeats 8000000 in
theorem lawParts (x : Dr) (An : Option Addr) (cn : Nat) (Ae : Option Addr) (ce : Nat) (y : Dr) (Bn : Option Addr) (dn : Nat) (Be : Option Addr) (de : Nat) (w : World) (hA : DrAt w An cn Ae ce x) (hB : DrAt w Bn dn Be de y) :
    Calls Try.prog 8 #[gval An x.ns.length cn Ae x.es.length ce, gval Bn y.ns.length dn Be y.es.length de] w fun e w' => e = .returned (.bool true) ∧ Below w.heap.size w w' := by
  have HS0 := Lib.hid (PB.start hA hB)
  have HMX := Lib.hid (fun W (h : DrAt W An cn Ae ce x) => made_any x An cn Ae ce W h)
  have HMY := Lib.hid (fun W (h : DrAt W Bn dn Be de y) => made_any y Bn dn Be de W h)
  have HPF := Lib.hid (parts_facts (made_uni x y))
  have hue := made_uni x y
  have lx1 := Nat.le_trans hA.cn.1 hA.cn.2
  have lx2 := Nat.le_trans hA.ce.1 hA.ce.2
  have ly1 := Nat.le_trans hB.cn.1 hB.cn.2
  have ly2 := Nat.le_trans hB.ce.1 hB.ce.2
  unfold maxLen at lx1 lx2 ly1 ly2
  clear hA hB
  generalize madeG x = a at *
  generalize madeG y = b at *
  have HUP := Lib.hid (fun An cn Ae ce Bn dn Be de W h1 h2 => by have := uniP a b An cn Ae ce Bn dn Be de W h1 h2; rw [hue] at this; exact this)
  generalize uniG a b = G at HUP HPF
  generalize uniM a b = M at HUP HPF
  generalize uniN a b = N at HUP HPF
  clear hue
  have HR1 := Lib.hid (fun An cn Ae ce Av Ax cv cx W h1 h2 h3 => by have := remP G M.ns M.es An cn Ae ce Av Ax cv cx W HPF.out.l.2.1.1 HPF.out.l.2.1.2 h1 h2 h3; rw [HPF.out.r1, HPF.out.r2] at this; exact this)
  have HR2 := Lib.hid (fun An cn Ae ce Av Ax cv cx W h1 h2 h3 => by have := remP G N.ns N.es An cn Ae ce Av Ax cv cx W HPF.out.l.2.2.1 HPF.out.l.2.2.2 h1 h2 h3; rw [HPF.out.r3, HPF.out.r4] at this; exact this)
  have HCA := Lib.hid (fun An cn Ae ce W h => by have := compP a An cn Ae ce W h; rw [HPF.out.va] at this; exact this)
  have HCB := Lib.hid (fun An cn Ae ce W h => by have := compP b An cn Ae ce W h; rw [HPF.out.vb] at this; exact this)
  have HCG := Lib.hid (fun An cn Ae ce W h => by have := compP G An cn Ae ce W h; rw [HPF.out.v] at this; exact this)
  have HCL := Lib.hid HPF.out.cl
  have HSN := Lib.hid HPF.out.sn
  have HSE := Lib.hid HPF.out.se
  have HFL := Lib.hid HPF.out.fl
  have HGL := Lib.hid HPF.out.l.1
  have HSA := Lib.hid (comp_small a)
  have HSB := Lib.hid (comp_small b)
  have HSG := Lib.hid (comp_small G)
  clear HPF
  generalize remM G M.ns M.es = O1 at HR1
  generalize remM G N.ns N.es = O2 at HR2
  generalize compR a = pa at *
  generalize compR b = pb at *
  generalize compR G = ps at *
  go_enter Try.func8, Try.ntmps8
  go_wp2_with fail
  refine (awake_any _).mono ?_
  rintro e w1 ⟨rfl, hb1⟩
  have HS1 := Lib.hid (HS0.out.up hb1)
  clear hb1 HS0
  have HAG : Hid (∀ W, Below w.heap.size w W → Calls Try.prog 10 #[] W fun e w' => e = .returned (.bool true) ∧ Below w.heap.size w w') := Lib.hid fun W h => (awake_any W).mono fun e w' ⟨h1, h2⟩ => ⟨h1, h.trans (h2.mono h.size)⟩
  obtain ⟨c0, c1⟩ := HS1.out.b0.box.cells
  obtain ⟨c2, c3⟩ := HS1.out.b1.box.cells
  have z0 := heap_lt HS1.out.b0.box
  have z1 := heap_lt HS1.out.b1.box
  by_cases hq : x.ns.length ≤ 8 ∧ x.es.length ≤ 10 ∧ y.ns.length ≤ 8 ∧ y.es.length ≤ 10
  case neg =>
    have hd : decide ((8 : Int) < (x.ns.length : Int)) = true ∨ (decide ((8 : Int) < (x.ns.length : Int)) = false ∧ decide ((10 : Int) < (x.es.length : Int)) = true) ∨ (decide ((8 : Int) < (x.ns.length : Int)) = false ∧ decide ((10 : Int) < (x.es.length : Int)) = false ∧ decide ((8 : Int) < (y.ns.length : Int)) = true) ∨ (decide ((8 : Int) < (x.ns.length : Int)) = false ∧ decide ((10 : Int) < (x.es.length : Int)) = false ∧ decide ((8 : Int) < (y.ns.length : Int)) = false ∧ decide ((10 : Int) < (y.es.length : Int)) = true) := by
      by_cases h1 : x.ns.length ≤ 8
      · refine .inr ?_
        by_cases h2 : x.es.length ≤ 10
        · refine .inr ?_
          by_cases h3 : y.ns.length ≤ 8
          · exact .inr ⟨decide_eq_false (by omega), decide_eq_false (by omega), decide_eq_false (by omega), decide_eq_true (by omega)⟩
          · exact .inl ⟨decide_eq_false (by omega), decide_eq_false (by omega), decide_eq_true (by omega)⟩
        · exact .inl ⟨decide_eq_false (by omega), decide_eq_true (by omega)⟩
      · exact .inl (decide_eq_true (by omega))
    clear hq
    rcases hd with t1 | ⟨t1, t2⟩ | ⟨t1, t2, t3⟩ | ⟨t1, t2, t3, t4⟩
    all_goals
      go_wp2_with fail
      refine (HAG.out _ HS1.out.be).mono ?_
      rintro e w3 ⟨rfl, hb3⟩
      have HBF := Lib.hid hb3
      clear hb3
      go_wp2_with fail
      go_ret
      exact ⟨rfl, HBF.out⟩
  obtain ⟨q1, q2, q3, q4⟩ := hq
  have t1 : decide ((8 : Int) < (x.ns.length : Int)) = false := decide_eq_false (by omega)
  have t2 : decide ((10 : Int) < (x.es.length : Int)) = false := decide_eq_false (by omega)
  have t3 : decide ((8 : Int) < (y.ns.length : Int)) = false := decide_eq_false (by omega)
  have t4 : decide ((10 : Int) < (y.es.length : Int)) = false := decide_eq_false (by omega)
  clear q1 q2 q3 q4 HAG
  go_wp2_with fail
  clear c0 c1 c2 c3 z0 z1 t1 t2 t3 t4
  refine wp_region_noPanic ?_
  refine wp_region_held_drew (S := PB w x An cn Ae ce y Bn dn Be de) (by kernel_rfl) (HS1.out.up (below_d _)) (fun hHeld => ?_)
  refine wpAnyH_act (fun a0 ha0 => ?_)
  have ea2 : a0.eval (.tmp 2) = .pointer (some ⟨w.heap.size, 0, none⟩) := by rw [ha0]; rfl
  have ea3 : a0.eval (.tmp 3) = .pointer (some ⟨w.heap.size + 1, 0, none⟩) := by rw [ha0]; rfl
  have hsz0 : a0.tmps.size = 176 := by rw [ha0]; rfl
  refine chain_region (PB w x An cn Ae ce y Bn dn Be de) (PV x An cn Ae ce y Bn dn Be de a b) a0 _ [0, 2, 1, 3] [54, 56, 55, 57] [true, true, false, false]
    [⟨4, 5, .cells #[.slice none 0 0, .slice none 0 0] 25 (0, 0)⟩, ⟨5, 6, .cells #[.slice none 0 0, .slice none 0 0] 25 (0, 0)⟩]
    _ 2 rfl (by decide) (by decide) (by kernel_rfl) (fun _ _ _ _ _ h => h) (by kernel_rfl) ?al (fun W W' h hb => h.up hb) PV.up ?step ?fin hHeld _ rfl
  case al =>
    intro x hx
    simp only [List.mem_cons, List.not_mem_nil, or_false] at hx
    rcases hx with rfl | rfl
    all_goals
      refine ⟨_, rfl, rfl, fun A W => ⟨rfl, ?_⟩⟩
      go_simp
  case step =>
    intro c i d rs bs W h1 h2 h3 h4 hS hF hsz
    have hc : c < 4 := (List.getElem?_eq_some_iff.1 h3).1
    have hc : c = 0 ∨ c = 1 ∨ c = 2 ∨ c = 3 := by omega
    clear h2 hsz
    rcases hc with rfl | rfl | rfl | rfl
    · simp only [List.getElem?_cons_zero, Option.some.injEq] at h3 h4
      subst h3 h4
      match rs, h1, hF with
      | [], _, hF =>
        clear hF
        show ChStep _ _ _ _ _ true _ _ _ _
        generalize hA : pup _ _ bs = A
        have ev0 : A.eval (.tmp 2) = .pointer (some ⟨w.heap.size, 0, none⟩) := ev_old hA ea2 rfl rfl
        clear hA
        refine ChStep.pure (o := _) (v := (gval An x.ns.length cn Ae x.es.length ce)) rfl rfl rfl (fun W2 hS2 => ?_) rfl
        obtain ⟨c0, c1⟩ := hS2.b0.box.cells
        have ev0 := ev_raw ev0
        go_simp
    · simp only [List.getElem?_cons_zero, List.getElem?_cons_succ, Option.some.injEq] at h3 h4
      subst h3 h4
      match rs, h1, hF with
      | [r0], _, hF =>
        clear hF
        show ChStep _ _ _ _ _ true _ _ _ _
        generalize hA : pup _ _ bs = A
        have ev0 : A.eval (.tmp 3) = .pointer (some ⟨w.heap.size + 1, 0, none⟩) := ev_old hA ea3 rfl rfl
        clear hA
        refine ChStep.pure (o := _) (v := (gval Bn y.ns.length dn Be y.es.length de)) rfl rfl rfl (fun W2 hS2 => ?_) rfl
        obtain ⟨c0, c1⟩ := hS2.b1.box.cells
        have ev0 := ev_raw ev0
        go_simp
    · simp only [List.getElem?_cons_zero, List.getElem?_cons_succ, Option.some.injEq] at h3 h4
      subst h3 h4
      match rs, h1, hF with
      | [r0, r1], _, hF =>
        have k0 := hF 0 _ rfl
        obtain rfl : r0 = _ := k0
        clear hF
        show ChStep _ _ _ _ _ false _ _ _ _
        generalize hA : pup _ _ bs = A
        have ev0 : A.eval (.tmp 54) = (gval An x.ns.length cn Ae x.es.length ce) := ev_new hA 0 (by decide) rfl rfl (by omega) rfl
        clear hA
        refine ChStep.call (o := _) (f := 33) (xs := _) (ts := _) (args := #[(gval An x.ns.length cn Ae x.es.length ce)]) rfl rfl rfl rfl (by simp only [List.map_toArray, List.map_cons, List.map_nil, ev0]) (by kernel_rfl) ?_
        exact (HMX.out W hS.b0.dr).mono fun e w2 ⟨⟨v, he, hg⟩, hb⟩ => ⟨⟨v, he, hg⟩, hb⟩
    · simp only [List.getElem?_cons_zero, List.getElem?_cons_succ, Option.some.injEq] at h3 h4
      subst h3 h4
      match rs, h1, hF with
      | [r0, r1, r2], _, hF =>
        have k1 := hF 1 _ rfl
        obtain rfl : r1 = _ := k1
        clear hF
        show ChStep _ _ _ _ _ false _ _ _ _
        generalize hA : pup _ _ bs = A
        have ev0 : A.eval (.tmp 56) = (gval Bn y.ns.length dn Be y.es.length de) := ev_new hA 1 (by decide) rfl rfl (by omega) rfl
        clear hA
        refine ChStep.call (o := _) (f := 33) (xs := _) (ts := _) (args := #[(gval Bn y.ns.length dn Be y.es.length de)]) rfl rfl rfl rfl (by simp only [List.map_toArray, List.map_cons, List.map_nil, ev0]) (by kernel_rfl) ?_
        exact (HMY.out W hS.b1.dr).mono fun e w2 ⟨⟨v, he, hg⟩, hb⟩ => ⟨⟨v, he, hg⟩, hb⟩
  case fin =>
    intro rs ks W h1 h2 hS hF hok hbW
    match rs, h1, hF with
    | [r0, r1, r2, r3], _, hF =>
      obtain ⟨Xn, xn, Xe, xe, rfl, hX⟩ := hF 2 _ rfl
      obtain ⟨Yn, yn, Ye, ye, rfl, hY⟩ := hF 3 _ rfl
      clear hF
      match ks, h2, hok with
      | [g1, g2], _, hok =>
        obtain ⟨o1, o2, _⟩ := hok
        obtain ⟨p1, l1, n1⟩ := o1 g1 rfl
        obtain ⟨p2, l2, n2⟩ := o2 g2 rfl
        have n12 : g1 ≠ g2 := fun e => n1 (by rw [e]; simp)
        have hw1 : w.heap.size + 2 ≤ w1.drew.heap.size := by have := heap_lt HS1.out.b1.box; simp; omega
        clear o1 o2 n1 n2 ea2 ea3 hsz0
        have p1 : BoxIs g1 (.slice none 0 0) (.slice none 0 0) 25 W := p1
        have p2 : BoxIs g2 (.slice none 0 0) (.slice none 0 0) 25 W := p2
        have U1 := Lib.hid (PB.set2 hS (p := Xn) (q := a.ns.length) (r := xn) p1 (by omega) (.slice Xe a.es.length xe))
        have G1 := Lib.hid (GB.store hX p1)
        have Y1 := Lib.hid (hY.set2 (p := Xn) (q := a.ns.length) (r := xn) p1 (.slice Xe a.es.length xe))
        have P21 := Lib.hid (p2.far2 (x := .slice Xn a.ns.length xn) (y := .slice Xe a.es.length xe) n12)
        obtain ⟨q0, q1⟩ := p1.cells
        have f0 := p1.free 0
        have f1 := p1.free 1
        have HL2 := Lib.hid (show w.heap.size + 2 ≤ g2 by omega)
        have HN12 := Lib.hid n12
        subst ha0
        simp only [pud, pup, List.map_cons, List.map_nil, Act.put, List.setIfInBounds_toArray, List.set_cons_zero, List.set_cons_succ]
        clear p1 p2 hX hY hS l1 l2 n12 hw1 hbW hHeld HS1 HMX HMY
        refine wpAnyH_ready (rs := [6]) (by kernel_rfl) (by simp) ?_
        refine AllReadyH.cons (op_at (r := _) rfl) (fun K hK => ?_) AllReadyH.nil
        go_simp
        refine hK.out _ _ U1.out (fun _ => ?_)
        clear hK K q0 q1 f0 f1
        generalize (W.setCell ⟨g1, 0, none⟩ (.slice Xn a.ns.length xn)).setCell ⟨g1, 1, none⟩ (.slice Xe a.es.length xe) = W1 at *
        try simp only [Act.put, List.setIfInBounds_toArray, List.set_cons_zero, List.set_cons_succ]
        have U2 := Lib.hid (PB.set2 U1.out (p := Yn) (q := b.ns.length) (r := yn) P21.out HL2.out (.slice Ye b.es.length ye))
        have G2 := Lib.hid (G1.out.set2 (p := Yn) (q := b.ns.length) (r := yn) P21.out HN12.out.symm (.slice Ye b.es.length ye))
        have Y2 := Lib.hid (GB.store Y1.out P21.out)
        obtain ⟨q0, q1⟩ := P21.out.cells
        have f0 := P21.out.free 0
        have f1 := P21.out.free 1
        clear U1 G1 Y1 P21 HL2 HN12
        refine wpAnyH_ready (rs := [7]) (by kernel_rfl) (by simp) ?_
        refine AllReadyH.cons (op_at (r := _) rfl) (fun K hK => ?_) AllReadyH.nil
        go_simp
        refine hK.out _ _ U2.out (fun _ => ?_)
        clear hK K q0 q1 f0 f1
        have Q2 := Lib.hid (show QB w g1 Xn xn Xe xe a g2 Yn yn Ye ye b _ from ⟨G2.out, Y2.out, U2.out.be⟩)
        clear U2 G2 Y2
        generalize (W1.setCell ⟨g2, 0, none⟩ (.slice Yn b.ns.length yn)).setCell ⟨g2, 1, none⟩ (.slice Ye b.es.length ye) = w4 at *
        try simp only [Act.put, List.setIfInBounds_toArray, List.set_cons_zero, List.set_cons_succ]
        refine wpAnyH_done (by kernel_rfl) ?_ _
        refine NoPanic.normal ?_
        obtain ⟨c0, c1⟩ := Q2.out.a.cells
        obtain ⟨c2, c3⟩ := Q2.out.b.cells
        have z0 := Q2.out.a.lt
        have z1 := Q2.out.b.lt
        go_wp2_with fail
        refine (HUP.out _ _ _ _ _ _ _ _ _ Q2.out.a.gr Q2.out.b.gr).mono ?_
        rintro e w5 ⟨⟨v, p, q, rfl, ⟨Dn, en, De, ee, rfl, hD⟩, ⟨Mn, mn, Me, me, rfl, hM⟩, ⟨Nn, nn, Ne, ne, rfl, hN⟩⟩, hb5⟩
        have FQ5 := Lib.hid (Q2.out.up hb5)
        have HD := Lib.hid hD
        have HM := Lib.hid hM
        have HN := Lib.hid hN
        clear hb5 hD hM hN Q2 HUP c0 c1 c2 c3 z0 z1
        go_wp2_with fail
        obtain ⟨w8, hw8⟩ : ∃ w8, w8 = ((w5.alloc (.cells #[.slice Dn G.ns.length en, .slice De G.es.length ee] 25 (0, 0))).alloc (.cells #[.slice Mn M.ns.length mn, .slice Me M.es.length me] 40 (0, 0))).alloc (.cells #[.slice Nn N.ns.length nn, .slice Ne N.es.length ne] 40 (0, 0)) := ⟨_, rfl⟩
        obtain ⟨q1, q2, q3, q4⟩ := boxes_gmn HD.out HM.out HN.out hw8
        have FQ8 := Lib.hid (FQ5.out.up q4)
        have FD8 := Lib.hid q1
        have FM8 := Lib.hid q2
        have FN8 := Lib.hid q3
        rw [← hw8]
        clear q1 q2 q3 q4 hw8 HD HM HN FQ5
        generalize w5.heap.size = hd at *
        refine (HR1.out _ _ _ _ _ _ _ _ _ FD8.out.gr FM8.out.mo.ns FM8.out.mo.es).mono ?_
        rintro e w9 ⟨⟨v, u, rfl, ⟨Cn, fn, Ce, fe, rfl, hC⟩, ⟨On, on, Oe, oe, rfl, hO⟩⟩, hb9⟩
        have FQ9 := Lib.hid (FQ8.out.up hb9)
        have FD9 := Lib.hid (FD8.out.up hb9)
        have FN9 := Lib.hid (FN8.out.up hb9)
        have HC := Lib.hid hC
        have HO := Lib.hid hO
        clear hb9 hC hO FQ8 FD8 FN8 FM8 HR1
        obtain ⟨c0, c1⟩ := FD9.out.cells
        obtain ⟨c2, c3⟩ := FN9.out.cells
        have z0 := FD9.out.lt
        have z1 := FN9.out.lt
        have z2 : hd < w9.heap.size + 1 := by omega
        have z3 : hd + 2 < w9.heap.size + 1 := by omega
        go_wp2_with fail
        obtain ⟨w10, hw10⟩ : ∃ w10, w10 = (w9.alloc (.cells #[.slice Cn b.ns.length fn, .slice Ce b.es.length fe] 25 (0, 0))).alloc (.cells #[.slice On O1.ns.length on, .slice Oe O1.es.length oe] 40 (0, 0)) := ⟨_, rfl⟩
        obtain ⟨q1, _, q3⟩ := boxes_gm HC.out HO.out hw10
        have FQa := Lib.hid (FQ9.out.up q3)
        have FDa := Lib.hid (FD9.out.up q3)
        have FNa := Lib.hid (FN9.out.up q3)
        have FCa := Lib.hid q1
        rw [← hw10]
        clear q1 q3 hw10 HC HO FQ9 FD9 FN9 c0 c1 c2 c3 z0 z1 z2 z3
        generalize w9.heap.size = hc at *
        refine (HR2.out _ _ _ _ _ _ _ _ _ FDa.out.gr FNa.out.mo.ns FNa.out.mo.es).mono ?_
        rintro e w11 ⟨⟨v, u, rfl, ⟨Sn, sn, Se, se, rfl, hS⟩, ⟨Tn, tn, Te, te, rfl, hT⟩⟩, hb11⟩
        have FQb := Lib.hid (FQa.out.up hb11)
        have FDb := Lib.hid (FDa.out.up hb11)
        have FCb := Lib.hid (FCa.out.up hb11)
        have HS := Lib.hid hS
        have HT := Lib.hid hT
        clear hb11 hS hT FQa FDa FNa FCa HR2
        obtain ⟨c0, c1⟩ := FQb.out.a.cells
        have z0 := FQb.out.a.lt
        have z2 : g1 < w11.heap.size + 1 := by omega
        go_wp2_with fail
        obtain ⟨w12, hw12⟩ : ∃ w12, w12 = (w11.alloc (.cells #[.slice Sn a.ns.length sn, .slice Se a.es.length se] 25 (0, 0))).alloc (.cells #[.slice Tn O2.ns.length tn, .slice Te O2.es.length te] 40 (0, 0)) := ⟨_, rfl⟩
        obtain ⟨q1, _, q3⟩ := boxes_gm HS.out HT.out hw12
        have FQc := Lib.hid (FQb.out.up q3)
        have FDc := Lib.hid (FDb.out.up q3)
        have FCc := Lib.hid (FCb.out.up q3)
        have FSc := Lib.hid q1
        rw [← hw12]
        clear q1 q3 hw12 HS HT FQb FDb FCb c0 c1 z0 z2
        generalize w11.heap.size = hs at *
        refine (HCA.out _ _ _ _ _ FQc.out.a.gr).mono ?_
        rintro e w13 ⟨⟨v, rfl, ⟨P1, k1, rfl, _⟩⟩, hb13⟩
        have FQd := Lib.hid (FQc.out.up hb13)
        have FDd := Lib.hid (FDc.out.up hb13)
        have FCd := Lib.hid (FCc.out.up hb13)
        have FSd := Lib.hid (FSc.out.up hb13)
        clear hb13 FQc FDc FCc FSc HCA
        obtain ⟨c0, c1⟩ := FQd.out.b.cells
        have z0 := FQd.out.b.lt
        go_wp2_with fail
        refine (HCB.out _ _ _ _ _ FQd.out.b.gr).mono ?_
        rintro e w14 ⟨⟨v, rfl, ⟨P2, k2, rfl, _⟩⟩, hb14⟩
        have FQe := Lib.hid (FQd.out.up hb14)
        have FDe := Lib.hid (FDd.out.up hb14)
        have FCe := Lib.hid (FCd.out.up hb14)
        have FSe := Lib.hid (FSd.out.up hb14)
        clear hb14 FQd FDd FCd FSd HCB c0 c1 z0
        obtain ⟨c0, c1⟩ := FDe.out.cells
        have z0 := FDe.out.lt
        go_wp2_with fail
        refine (HCG.out _ _ _ _ _ FDe.out.gr).mono ?_
        rintro e w15 ⟨⟨v, rfl, ⟨P3, k3, rfl, hP⟩⟩, hb15⟩
        have FQf := Lib.hid (FQe.out.up hb15)
        have FDf := Lib.hid (FDe.out.up hb15)
        have FCf := Lib.hid (FCe.out.up hb15)
        have FSf := Lib.hid (FSe.out.up hb15)
        have FPf := Lib.hid hP
        clear hb15 hP FQe FDe FCe FSe HCG c0 c1 z0
        obtain ⟨c0, c1⟩ := FCf.out.cells
        obtain ⟨c2, c3⟩ := FQf.out.b.cells
        have z0 := FCf.out.lt
        have z1 := FQf.out.b.lt
        go_wp2_with fail
        refine (sameR_any b b _ _ _ _ _ _ _ _ _ FCf.out.gr FQf.out.b.gr).mono ?_
        rintro e w16 ⟨rfl, hb16⟩
        have FQg := Lib.hid (FQf.out.up hb16)
        have FDg := Lib.hid (FDf.out.up hb16)
        have FCg := Lib.hid (FCf.out.up hb16)
        have FSg := Lib.hid (FSf.out.up hb16)
        have FPg := Lib.hid (FPf.out.up hb16)
        clear hb16 FQf FDf FCf FSf FPf c0 c1 c2 c3 z0 z1
        rw [decide_eq_true (p := b = b) rfl]
        obtain ⟨c0, c1⟩ := FSg.out.cells
        obtain ⟨c2, c3⟩ := FQg.out.a.cells
        have z0 := FSg.out.lt
        have z1 := FQg.out.a.lt
        go_wp2_with fail
        refine (sameR_any a a _ _ _ _ _ _ _ _ _ FSg.out.gr FQg.out.a.gr).mono ?_
        rintro e w17 ⟨rfl, hb17⟩
        have FQh := Lib.hid (FQg.out.up hb17)
        have FDh := Lib.hid (FDg.out.up hb17)
        have FPh := Lib.hid (FPg.out.up hb17)
        clear hb17 FQg FDg FPg c0 c1 c2 c3 z0 z1
        rw [decide_eq_true (p := a = a) rfl]
        obtain ⟨sa, _⟩ := HSA.out
        obtain ⟨sb, _⟩ := HSB.out
        obtain ⟨sg, _⟩ := HSG.out
        have hcl := HCL.out
        have t5 : ((ps.length : Int) != (pa.length : Int) + (pb.length : Int)) = false := by simp; omega
        clear hcl
        go_wp2_with fail
        obtain ⟨fN, hfN⟩ : ∃ fN : Nat → List Int, fN = fun k => (ps.take k).flatMap (·.ns) := ⟨_, rfl⟩
        obtain ⟨fE, hfE⟩ : ∃ fE : Nat → List Int, fE = fun k => (ps.take k).flatMap (·.es) := ⟨_, rfl⟩
        have HN0 : Hid (fN 0 = []) := Lib.hid (by rw [hfN]; rfl)
        have HE0 : Hid (fE 0 = []) := Lib.hid (by rw [hfE]; rfl)
        have HNS : Hid (∀ k (h : k < ps.length), fN (k + 1) = fN k ++ (ps[k]).ns) := Lib.hid fun k h => by rw [hfN]; exact flat_succ _ h
        have HES : Hid (∀ k (h : k < ps.length), fE (k + 1) = fE k ++ (ps[k]).es) := Lib.hid fun k h => by rw [hfE]; exact flat_succ _ h
        have HNL : Hid (∀ k, (fN k).length ≤ 40) := Lib.hid fun k => by have h1 := flat_len (·.ns) ps k; have h2 := HFL.out.1; have h3 := HGL.out.1; rw [hfN]; dsimp only at h1 ⊢; omega
        have HEL : Hid (∀ k, (fE k).length ≤ 80) := Lib.hid fun k => by have h1 := flat_len (·.es) ps k; have h2 := HFL.out.2; have h3 := HGL.out.2; rw [hfE]; dsimp only at h1 ⊢; omega
        have HPL : Hid (∀ k (h : k < ps.length), (ps[k]).ns.length ≤ 1000 ∧ (ps[k]).es.length ≤ 1000) := Lib.hid fun k h => HSG.out.2 _ (List.getElem_mem h)
        have HNF : Hid ((fN ps.length).length = G.ns.length ∧ srt (fN ps.length) = numS 0 G.ns.length) := Lib.hid (by rw [hfN]; dsimp only; rw [List.take_length]; exact ⟨HFL.out.1, HSN.out⟩)
        have HEF : Hid ((fE ps.length).length = G.es.length ∧ srt (fE ps.length) = numS 0 G.es.length) := Lib.hid (by rw [hfE]; dsimp only; rw [List.take_length]; exact ⟨HFL.out.2, HSE.out⟩)
        clear hfN hfE HSN HSE HFL t5
        go_loopw [23, 24, 145] (fun va vb vi wr => ∃ k : Nat, k ≤ ps.length ∧ vi = .int .i64 k ∧ OwnI wr w17.heap.size va (fN k) ∧ OwnI wr w17.heap.size vb (fE k) ∧ Ap va vb ∧ Below w17.heap.size w17 wr) (fun _ _ vi _ => ps.length - (intOf vi).toNat)
        case atStart => exact ⟨0, Nat.zero_le _, rfl, by rw [HN0.out]; exact OwnE.nil _ _ _, by rw [HE0.out]; exact OwnE.nil _ _ _, ap_nil _, Below.refl _ _⟩
        case round =>
          obtain ⟨k, hk, rfl, hoa, hob, hap, hbel⟩ := hrel
          have HBL := Lib.hid hbel
          have hszr := hbel.size
          obtain ⟨aa, ca, rfl⟩ := OwnE.slice hoa
          obtain ⟨ab, cb, rfl⟩ := OwnE.slice hob
          have HOA := Lib.hid hoa
          have HOB := Lib.hid hob
          have HAP := Lib.hid hap
          clear hoa hob hap hbel
          have ha1 := HNL.out k
          have ha2 := HEL.out k
          by_cases hlt : k < ps.length
          · obtain ⟨bp, offp, cs, rfl, hbp, hr, hc⟩ := DReads.at (DReads.below FPh.out HBL.out) hlt
            obtain ⟨A1, c1, A2, c2, rfl, r1, r2⟩ := hr
            have k0 := hc 0 _ rfl
            have k1 := hc 1 _ rfl
            obtain ⟨m1, m2⟩ := HPL.out k hlt
            have HN2 := Lib.hid (HNS.out k hlt)
            have HE2 := Lib.hid (HES.out k hlt)
            generalize ps[k] = p at *
            obtain ⟨pn, pe⟩ := p
            dsimp only at r1 r2 m1 m2 HN2 HE2 k0 k1
            simp only [show DPart.size = 2 from rfl, Nat.add_zero] at k0 k1
            have R1 := Lib.hid (fun W (h : Below w17.heap.size wr W) => Reads.below r1 h)
            have R2 := Lib.hid (fun W (h : Below w17.heap.size wr W) => Reads.below r2 h)
            have i0 : (0 : Int) ≤ (k : Int) := by omega
            have i1 : (k : Int) < (ps.length : Int) := by omega
            have i2 : ((k : Int)).toNat = k := by omega
            have hbp9 : bp < wr.heap.size := by omega
            clear hc r1 r2
            go_wp2_with fail
            clear k0 k1
            have hxb := below_a wr (.cells #[.slice A1 pn.length c1, .slice A2 pe.length c2] 60 (0, 0))
            have BXX := Lib.hid (show BoxIs wr.heap.size (.slice A1 pn.length c1) (.slice A2 pe.length c2) 60 (wr.alloc (.cells #[.slice A1 pn.length c1, .slice A2 pe.length c2] 60 (0, 0))).drew from heap_alloc_new wr _)
            have HXB := Lib.hid (Below.drew (hxb.mono hszr))
            have HXA := Lib.hid (OwnE.below HOA.out (Below.drew hxb) (Nat.le_refl _))
            have HXO := Lib.hid (OwnE.below HOB.out (Below.drew hxb) (Nat.le_refl _))
            clear hxb
            refine wp_region_noPanic ?_
            refine wp_region_held_drew (S := fun W => (W.cell? ⟨wr.heap.size, 0, none⟩ = some (.slice A1 pn.length c1) ∧ W.cell? ⟨wr.heap.size, 1, none⟩ = some (.slice A2 pe.length c2)) ∧ True) (by kernel_rfl) ⟨BXX.out.cells, trivial⟩ (fun hHeld => ?_)
            have hxs : w17.heap.size ≤ (wr.alloc (.cells #[.slice A1 pn.length c1, .slice A2 pe.length c2] 60 (0, 0))).drew.heap.size := Nat.le_trans hszr HXB.out.size
            generalize (wr.alloc (.cells #[.slice A1 pn.length c1, .slice A2 pe.length c2] 60 (0, 0))).drew = wx at *
            refine wpAnyH_take (i := 0) (v := ?_) (op_at (r := _) rfl) (by kernel_rfl) (by kernel_rfl) (by kernel_rfl) (fun _ _ _ h => h) (Or.inl ⟨by rfl, ?_⟩) (by assumption) ?_
            rotate_left
            · intro W2 hSw
              obtain ⟨⟨s0, s1⟩, _⟩ := hSw
              go_simp
              try with_reducible rfl
            try simp only [Act.put, List.setIfInBounds_toArray, List.set_cons_zero, List.set_cons_succ]
            refine wpAnyH_take (i := 1) (v := ?_) (op_at (r := _) rfl) (by kernel_rfl) (by kernel_rfl) (by kernel_rfl) (fun _ _ _ h => h) (Or.inl ⟨by rfl, ?_⟩) (by assumption) ?_
            rotate_left
            · intro W2 hSw
              obtain ⟨⟨s0, s1⟩, _⟩ := hSw
              go_simp
              try with_reducible rfl
            try simp only [Act.put, List.setIfInBounds_toArray, List.set_cons_zero, List.set_cons_succ]
            refine wpAnyH_take (i := 2) (v := ?_) (op_at (r := _) rfl) (by kernel_rfl) (by kernel_rfl) (by kernel_rfl) (fun _ _ _ h => h) (Or.inl ⟨by rfl, ?_⟩) (by assumption) ?_
            rotate_left
            · intro W2 hSw
              obtain ⟨⟨s0, s1⟩, _⟩ := hSw
              go_simp
              try with_reducible rfl
            try simp only [Act.put, List.setIfInBounds_toArray, List.set_cons_zero, List.set_cons_succ]
            refine wpAnyH_take (i := 4) (v := ?_) (op_at (r := _) rfl) (by kernel_rfl) (by kernel_rfl) (by kernel_rfl) (fun _ _ _ h => h) (Or.inl ⟨by rfl, ?_⟩) (by assumption) ?_
            rotate_left
            · intro W2 hSw
              obtain ⟨⟨s0, s1⟩, _⟩ := hSw
              go_simp
              try with_reducible rfl
            try simp only [Act.put, List.setIfInBounds_toArray, List.set_cons_zero, List.set_cons_succ]
            refine wpAnyH_take (i := 5) (v := ?_) (op_at (r := _) rfl) (by kernel_rfl) (by kernel_rfl) (by kernel_rfl) (fun _ _ _ h => h) (Or.inl ⟨by rfl, ?_⟩) (by assumption) ?_
            rotate_left
            · intro W2 hSw
              obtain ⟨⟨s0, s1⟩, _⟩ := hSw
              go_simp
              try with_reducible rfl
            try simp only [Act.put, List.setIfInBounds_toArray, List.set_cons_zero, List.set_cons_succ]
            refine wpAnyH_take (i := 6) (v := ?_) (op_at (r := _) rfl) (by kernel_rfl) (by kernel_rfl) (by kernel_rfl) (fun _ _ _ h => h) (Or.inl ⟨by rfl, ?_⟩) (by assumption) ?_
            rotate_left
            · intro W2 hSw
              obtain ⟨⟨s0, s1⟩, _⟩ := hSw
              go_simp
              try with_reducible rfl
            try simp only [Act.put, List.setIfInBounds_toArray, List.set_cons_zero, List.set_cons_succ]
            refine wpAnyH_ready (rs := [3]) (by kernel_rfl) (by simp) ?_
            refine AllReadyH.cons (op_at (r := _) rfl) (fun K hK => ?_) AllReadyH.nil
            refine step_append_at (by rfl) _ _ (by rfl) w17.heap.size (.slice aa (fN k).length ca) (fN k) (by rfl) HXA.out A1 c1 w17.heap.size pn (by rfl) (R1.out _ HXB.out) (by omega) (by omega) hxs ?_
            intro v8 w8 ho8 hg8 hl8
            rw [← HN2.out] at ho8
            obtain ⟨y1, y2, y3⟩ := app_two HXA.out HXO.out HAP.out hxs hg8 hl8
            have BX8 := Lib.hid (BXX.out.grow (by decide) y3)
            have HX8 := Lib.hid (HXB.out.trans (y3.1))
            have HO8 := Lib.hid ho8
            have HP8 := Lib.hid y1
            have HA8 := Lib.hid y2
            have hs8 : w17.heap.size ≤ w8.heap.size := Nat.le_trans hxs y3.1.size
            obtain ⟨a8, c8, rfl⟩ := OwnE.slice ho8
            clear ho8 hg8 hl8 y1 y2 y3
            refine hK.out _ _ ⟨BX8.out.cells, trivial⟩ (fun hHeld => ?_)
            clear hK K
            try simp only [Act.put, List.setIfInBounds_toArray, List.set_cons_zero, List.set_cons_succ]
            refine wpAnyH_ready (rs := [7]) (by kernel_rfl) (by simp) ?_
            refine AllReadyH.cons (op_at (r := _) rfl) (fun K hK => ?_) AllReadyH.nil
            refine step_append_at (by rfl) _ _ (by rfl) w17.heap.size (.slice ab (fE k).length cb) (fE k) (by rfl) HP8.out A2 c2 w17.heap.size pe (by rfl) (R2.out _ HX8.out) (by omega) (by omega) hs8 ?_
            intro v9 w9' ho9 hg9 hl9
            rw [← HE2.out] at ho9
            obtain ⟨y1, y2, y3⟩ := app_two HP8.out HO8.out HA8.out.symm hs8 hg9 hl9
            have BX9 := Lib.hid (BX8.out.grow (by decide) y3)
            have HX9 := Lib.hid (HX8.out.trans (y3.1))
            have HO9 := Lib.hid ho9
            have HP9 := Lib.hid y1
            have HA9 := Lib.hid y2
            obtain ⟨a9, c9, rfl⟩ := OwnE.slice ho9
            clear ho9 hg9 hl9 y1 y2 y3
            refine hK.out _ _ ⟨BX9.out.cells, trivial⟩ (fun hHeld => ?_)
            clear hK K
            try simp only [Act.put, List.setIfInBounds_toArray, List.set_cons_zero, List.set_cons_succ]
            refine wpAnyH_take (i := 8) (v := ?_) (op_at (r := _) rfl) (by kernel_rfl) (by kernel_rfl) (by kernel_rfl) (fun _ _ _ h => h) (Or.inl ⟨by rfl, ?_⟩) (by assumption) ?_
            rotate_left
            · intro W2 hSw
              obtain ⟨⟨s0, s1⟩, _⟩ := hSw
              go_simp
              try with_reducible rfl
            try simp only [Act.put, List.setIfInBounds_toArray, List.set_cons_zero, List.set_cons_succ]
            refine wpAnyH_take (i := 9) (v := ?_) (op_at (r := _) rfl) (by kernel_rfl) (by kernel_rfl) (by kernel_rfl) (fun _ _ _ h => h) (Or.inl ⟨by rfl, ?_⟩) (by assumption) ?_
            rotate_left
            · intro W2 hSw
              obtain ⟨⟨s0, s1⟩, _⟩ := hSw
              go_simp
              try with_reducible rfl
            try simp only [Act.put, List.setIfInBounds_toArray, List.set_cons_zero, List.set_cons_succ]
            refine wpAnyH_done (by kernel_rfl) ?_ _
            refine NoPanic.normal ?_
            go_wp2_with fail
            go_roundw
            case rel => exact ⟨k + 1, by omega, by go_num, HP9.out, HO9.out, HA9.out.symm, HBL.out.trans HX9.out⟩
            case measure => simp [intOf]; omega
          · have e : k = ps.length := by omega
            subst e
            obtain ⟨lf1, sf1⟩ := HNF.out
            obtain ⟨lf2, sf2⟩ := HEF.out
            have HLN := Lib.hid lf1
            have HLE := Lib.hid lf2
            have HSN := Lib.hid sf1
            have HSE := Lib.hid sf2
            obtain ⟨gl1, gl2⟩ := HGL.out
            have FDr := Lib.hid (FDh.out.up HBL.out)
            have FBr := Lib.hid (FQh.out.be.trans (HBL.out.mono FQh.out.be.size))
            have hdl := FDh.out.lt
            clear lf1 lf2 sf1 sf2 HNS HES HN0 HE0 HNL HEL HPL HNF HEF FPh FDh HGL
            have hsw := FQh.out.be.size
            go_wp2_with fail
            refine (sort_any w17.heap.size _ (fN ps.length) _ HOA.out (by omega)).mono ?_
            rintro e w18 ⟨rfl, hs1, hg1⟩
            obtain ⟨t1, t2, t3⟩ := app_two HOA.out HOB.out HAP.out hszr hg1 (.inl rfl)
            rw [HSN.out] at hs1
            have HOA8 := Lib.hid hs1
            have HOB8 := Lib.hid t1
            have HAP8 := Lib.hid t2
            have HDB8 := Lib.hid (FDr.out.box.grow (by decide) t3)
            have HBE8 := Lib.hid (FBr.out.trans (t3.1.mono hsw))
            have hsz8 := Nat.le_trans hszr t3.1.size
            clear hs1 hg1 t1 t2 t3 HOA HOB HAP FDr FBr
            go_wp2_with fail
            refine (sort_any w17.heap.size _ (fE ps.length) _ HOB8.out (by omega)).mono ?_
            rintro e w19 ⟨rfl, hs2, hg2⟩
            obtain ⟨t1, t2, t3⟩ := app_two HOB8.out HOA8.out HAP8.out.symm hsz8 hg2 (.inl rfl)
            rw [HSE.out] at hs2
            have HOB9 := Lib.hid hs2
            have HOA9 := Lib.hid t1
            have HDB9 := Lib.hid (HDB8.out.grow (by decide) t3)
            have HBE9 := Lib.hid (HBE8.out.trans (t3.1.mono hsw))
            clear hs2 hg2 t1 t2 t3 HOA8 HOB8 HAP8 HDB8 HBE8
            obtain ⟨A9, k9, e9, R9, _⟩ := OwnE.reads_cap HOA9.out
            obtain ⟨B9, l9, e8, S9, _⟩ := OwnE.reads_cap HOB9.out
            simp only [Value.slice.injEq] at e9 e8
            obtain ⟨rfl, e9, rfl⟩ := e9
            obtain ⟨rfl, e8, rfl⟩ := e8
            have R9 := Lib.hid (fun W (h : Below w19.heap.size w19 W) => Reads.below R9 h)
            have S9 := Lib.hid (fun W (h : Below w19.heap.size w19 W) => Reads.below S9 h)
            have E9 := Lib.hid e9
            have E8 := Lib.hid e8
            clear e9 e8 HOA9 HOB9
            obtain ⟨c0, c1⟩ := HDB9.out.cells
            have z0 := heap_lt HDB9.out
            have HN9 := Lib.hid (fun W => numbersR_any 0 G.ns.length W (Int.le_refl _) (by omega) (by omega))
            have HM9 := Lib.hid (fun W => numbersR_any 0 G.es.length W (Int.le_refl _) (by omega) (by omega))
            go_wp2_with fail
            refine (HN9.out _).mono ?_
            rintro e w20 ⟨v, rfl, ho, hb20⟩
            obtain ⟨A0, k0, rfl, R0, _⟩ := OwnE.reads_cap ho
            have B20 := Lib.hid hb20
            have R0 := Lib.hid R0
            clear ho hb20
            go_wp2_with fail
            rw [E9.out]
            refine (equal_any (numS 0 G.ns.length) (numS 0 G.ns.length) _ _ _ _ _ _ _ (by rw [numS_len]; unfold maxLen; omega) (R9.out _ B20.out) R0.out).mono ?_
            rintro e w21 ⟨rfl, hb21⟩
            have B21 := Lib.hid (B20.out.trans (hb21.mono B20.out.size))
            clear hb21 B20 R0 c0 c1 z0
            rw [decide_eq_true (p := numS 0 G.ns.length = numS 0 G.ns.length) rfl]
            obtain ⟨c0, c1⟩ := (HDB9.out.up B21.out).cells
            have z0 := heap_lt (HDB9.out.up B21.out)
            go_wp2_with fail
            refine (HM9.out _).mono ?_
            rintro e w22 ⟨v, rfl, ho, hb22⟩
            obtain ⟨A0, k0, rfl, R0, _⟩ := OwnE.reads_cap ho
            have B22 := Lib.hid (B21.out.trans (hb22.mono B21.out.size))
            have R0 := Lib.hid R0
            clear ho hb22 B21 c0 c1 z0
            go_wp2_with fail
            rw [E8.out]
            refine (equal_any (numS 0 G.es.length) (numS 0 G.es.length) _ _ _ _ _ _ _ (by rw [numS_len]; unfold maxLen; omega) (S9.out _ B22.out) R0.out).mono ?_
            rintro e w23 ⟨rfl, hb23⟩
            have HBF := Lib.hid (HBE9.out.trans ((B22.out.trans (hb23.mono B22.out.size)).mono HBE9.out.size))
            clear hb23
            rw [decide_eq_true (p := numS 0 G.es.length = numS 0 G.es.length) rfl]
            go_wp2_with fail
            go_ret
            exact ⟨rfl, HBF.out⟩

end Go.Proofs.Ytiafmhdicgmfaaa
