import Derived.Test.YtaeelanbkdkppaaDoorY15
import Derived.Test.YtaeelanbkdkppaaDoorZ07
import Derived.Lay
import Derived.MakeChecks
import Derived.Lib.LaidTab
import Derived.Test.YtaeelanbkdkppaaDoorRows
/-
  The reference's nodes and All. Printed by mknod.py.
-/
namespace Go.Proofs.YtaeelanbkdkppaaDoor
open Go.RowKit Go.Shelf

theorem edges_all (a b : Gr) (An : Option Addr) (cn : Nat) (Ae : Option Addr) (ce : Nat) (Bn : Option Addr) (dn : Nat) (Be : Option Addr) (de : Nat) (w : World) (hT : GrAt w An cn Ae ce a) (hU : GrAt w Bn dn Be de b) (hv : validE a = 0) : ∀ d, EdgC a b An cn Ae ce Bn dn Be de w d := by
  obtain ⟨q1, q2, _⟩ := valid_zero hv
  intro d
  induction d with
  | zero => exact edg_end a b An cn Ae ce Bn dn Be de w (by omega) (by omega)
  | succ d ih => exact edg_step a b An cn Ae ce Bn dn Be de w hT hU hv d ih
def NodC (a b : Gr) (An : Option Addr) (cn : Nat) (Ae : Option Addr) (ce : Nat) (Bn : Option Addr) (dn : Nat) (Be : Option Addr) (de : Nat) (w : World) (d : Nat) : Prop := ∀ (u : World) (vN v : Value) (l : List Int) (ps : List Mo), Below w.heap.size w u → OwnI u w.heap.size vN l → RowQ w.heap.size u v ps → ps.length ≤ 2001 → l.length + d = a.ns.length →
  Hands 57 #[gval An a.ns.length cn Ae a.es.length ce, gval Bn b.ns.length dn Be b.es.length de, vN, v] u w.heap.size v ((ps ++ ndR a b d l).take 2001)
structure NdJ (a b : Gr) (An : Option Addr) (cn : Nat) (Ae : Option Addr) (ce : Nat) (Bn : Option Addr) (dn : Nat) (Be : Option Addr) (de : Nat) (w u : World) (v0 vN : Value) (l : List Int) (v : Value) (L : List Mo) (V : World) : Prop where
  b1 : V.heap[u.heap.size]? = some (.cells #[.slice An a.ns.length cn, .slice Ae a.es.length ce] 25 (0, 0))
  b2 : V.heap[u.heap.size + 1]? = some (.cells #[.slice Bn b.ns.length dn, .slice Be b.es.length de] 25 (0, 0))
  rn : OwnI V w.heap.size vN l
  row : RowQ w.heap.size V v L
  gr : u.grownBy V v0.ownBlock
  ow : OwnTo v0 v u.heap.size
  be : Below w.heap.size w V
theorem NdJ.up {a b : Gr} {An : Option Addr} {cn : Nat} {Ae : Option Addr} {ce : Nat} {Bn : Option Addr} {dn : Nat} {Be : Option Addr} {de : Nat} {w u : World} {v0 vN : Value} {l : List Int} {v : Value} {L : List Mo} {V V' : World} (h : NdJ a b An cn Ae ce Bn dn Be de w u v0 vN l v L V) (hb : Below V.heap.size V V') : NdJ a b An cn Ae ce Bn dn Be de w u v0 vN l v L V' :=
  ⟨heap_up hb h.b1, heap_up hb h.b2, OwnE.below h.rn hb (Nat.le_refl _), h.row.up hb, grown_trans h.gr (gr_below hb), h.ow, h.be.trans (hb.mono h.be.size)⟩
theorem NdJ.next {a b : Gr} {An : Option Addr} {cn : Nat} {Ae : Option Addr} {ce : Nat} {Bn : Option Addr} {dn : Nat} {Be : Option Addr} {de : Nat} {w u : World} {v0 vN : Value} {l : List Int} {v v' : Value} {L L' : List Mo} {V V' : World} (h : NdJ a b An cn Ae ce Bn dn Be de w u v0 vN l v L V) (hr : RowQ w.heap.size V' v' L') (hg : V.grownBy V' v.ownBlock) (ho : OwnTo v v' V.heap.size) : NdJ a b An cn Ae ce Bn dn Be de w u v0 vN l v' L' V' :=
  ⟨heap_gr h.row hg h.b1 (by decide), heap_gr h.row hg h.b2 (by decide), own_gr h.row hg h.rn, hr, gr_trans h.gr hg h.ow, h.ow.trans ho h.gr.size, below_grq h.be (Nat.le_refl _) h.row hg⟩
theorem NdJ.start {a b : Gr} {An : Option Addr} {cn : Nat} {Ae : Option Addr} {ce : Nat} {Bn : Option Addr} {dn : Nat} {Be : Option Addr} {de : Nat} {w u : World} {v vN : Value} {l : List Int} {L : List Mo} (hu : Below w.heap.size w u) (hN : OwnI u w.heap.size vN l) (hR : RowQ w.heap.size u v L) : NdJ a b An cn Ae ce Bn dn Be de w u v vN l v L ((u.alloc (.cells #[.slice An a.ns.length cn, .slice Ae a.es.length ce] 25)).alloc (.cells #[.slice Bn b.ns.length dn, .slice Be b.es.length de] 25)) := by
  have hb : Below u.heap.size u ((u.alloc (.cells #[.slice An a.ns.length cn, .slice Ae a.es.length ce] 25)).alloc (.cells #[.slice Bn b.ns.length dn, .slice Be b.es.length de] 25)) := ((Below.refl _ _).alloc (Nat.le_refl _) _).alloc (by simp) _
  exact ⟨heap_two _ _ _, heap_two' _ _ _, OwnE.below hN hb (Nat.le_refl _), hR.up hb, gr_below hb, OwnTo.refl _ _, hu.trans (hb.mono hu.size)⟩

set_option maxRecDepth 100000 in
set_option maxHeartbeats 4000000 in
theorem nod_full (a b : Gr) (An : Option Addr) (cn : Nat) (Ae : Option Addr) (ce : Nat) (Bn : Option Addr) (dn : Nat) (Be : Option Addr) (de : Nat) (w u : World) (vN v : Value) (ps A : List Mo) (hR : RowQ w.heap.size u v ps) (h1 : 2000 < ps.length) (h2 : ps.length ≤ 2001) :
    Hands 57 #[gval An a.ns.length cn Ae a.es.length ce, gval Bn b.ns.length dn Be b.es.length de, vN, v] u w.heap.size v ((ps ++ A).take 2001) := by
  rw [take_full (by omega) h2]
  have t1 : (2000 : Int) < (ps.length : Int) := by omega
  have HR := Lib.hid hR
  obtain ⟨rA, rc, rfl⟩ := hR.slice
  clear hR
  go_enter Tryd.func57, Tryd.ntmps57
  go_wp2_with fail
  go_ret
  have hb : Below u.heap.size u ((u.alloc (.cells #[.slice An a.ns.length cn, .slice Ae a.es.length ce] 25)).alloc (.cells #[.slice Bn b.ns.length dn, .slice Be b.es.length de] 25)) := ((Below.refl _ _).alloc (Nat.le_refl _) _).alloc (by simp) _
  exact ⟨_, rfl, HR.out.up hb, gr_below hb, OwnTo.refl _ _⟩

set_option maxRecDepth 100000 in
set_option maxHeartbeats 4000000 in
theorem nod_end (a b : Gr) (An : Option Addr) (cn : Nat) (Ae : Option Addr) (ce : Nat) (Bn : Option Addr) (dn : Nat) (Be : Option Addr) (de : Nat) (w : World) (hE : EdgC a b An cn Ae ce Bn dn Be de w a.es.length) : NodC a b An cn Ae ce Bn dn Be de w 0 := by
  intro u vN v l ps hu hN hR hps hd
  by_cases hbig : 2000 < ps.length
  · exact nod_full a b An cn Ae ce Bn dn Be de w u vN v ps _ hR hbig hps
  have HE := Lib.hid (fun (V : World) (hJ : NdJ a b An cn Ae ce Bn dn Be de w u v vN l v ps V) => hE V vN (.slice none 0 0) v l [] ps hJ.be hJ.rn (OwnE.nil _ _ _) hJ.row hps (by simp) (by omega))
  have HJ : Hid (NdJ a b An cn Ae ce Bn dn Be de w u v vN l v ps _) := Lib.hid (NdJ.start (a := a) (b := b) hu hN hR)
  have t1 : ¬ (2000 : Int) < (ps.length : Int) := by omega
  have t2 : ((l.length : Int) == (a.ns.length : Int)) = true := by simp; omega
  have hnd : ndR a b 0 l = edR a b l a.es.length [] := rfl
  rw [hnd]
  obtain ⟨rA, rc, rfl⟩ := hR.slice
  obtain ⟨nA, nc, rfl⟩ := OwnE.slice hN
  have c0 := (cell2 HJ.out.b1).1
  have c1 := (cell2 HJ.out.b1).2
  have c2 := (cell2 HJ.out.b2).1
  have c3 := (cell2 HJ.out.b2).2
  clear hN hR hu hd hbig hps hnd hE
  go_enter Tryd.func57, Tryd.ntmps57
  go_wp2_with fail
  refine (HE.out _ HJ.out).mono ?_
  rintro e w9 ⟨v9, rfl, hr9, hg9, ho9⟩
  have HJ9 := Lib.hid (HJ.out.next hr9 hg9 ho9)
  clear hr9 hg9 ho9 HJ c0 c1 c2 c3
  go_wp2_with fail
  go_ret
  exact ⟨_, rfl, HJ9.out.row, HJ9.out.gr, HJ9.out.ow⟩

set_option maxRecDepth 100000 in
set_option maxHeartbeats 8000000 in
theorem nod_step (a b : Gr) (An : Option Addr) (cn : Nat) (Ae : Option Addr) (ce : Nat) (Bn : Option Addr) (dn : Nat) (Be : Option Addr) (de : Nat) (w : World) (hT : GrAt w An cn Ae ce a) (hU : GrAt w Bn dn Be de b) (hv : validE a = 0) (d : Nat) (ih : NodC a b An cn Ae ce Bn dn Be de w d) : NodC a b An cn Ae ce Bn dn Be de w (d + 1) := by
  intro u vN v l ps hu hN hR hps hd
  by_cases hbig : 2000 < ps.length
  · exact nod_full a b An cn Ae ce Bn dn Be de w u vN v ps _ hR hbig hps
  obtain ⟨q1, q2, _⟩ := valid_zero hv
  have hlt : l.length < a.ns.length := by omega
  have lbn := Nat.le_trans hU.cn.1 hU.cn.2
  unfold maxLen at lbn
  have HIH := Lib.hid ih
  have HLL : Hid (l.length + (d + 1) = a.ns.length ∧ l.length + 1 ≤ 1000 ∧ l.length < a.ns.length) := Lib.hid ⟨hd, by omega, hlt⟩
  have t1 : ¬ (2000 : Int) < (ps.length : Int) := by omega
  have t2 : ((l.length : Int) == (a.ns.length : Int)) = false := by simp; omega
  have t3 : (0 : Int) ≤ (l.length : Int) := by omega
  have t4 : (l.length : Int) < (a.ns.length : Int) := by omega
  have t5 : ((l.length : Int)).toNat = l.length := by omega
  obtain ⟨St, hSt⟩ : ∃ St : Nat → List Mo, St = fun k => if b.ns.getD k 0 = a.ns.getD l.length 0 ∧ fitsP a b (l ++ [(k : Int)]) then ndR a b d (l ++ [(k : Int)]) else [] := ⟨_, rfl⟩
  have hE : ndR a b (d + 1) l = (List.range b.ns.length).flatMap St := by rw [hSt]; rfl
  have HY : Hid (∀ k : Nat, b.ns.getD k 0 = a.ns.getD l.length 0 → decide (fitsP a b (l ++ [(k : Int)])) = true → St k = ndR a b d (l ++ [(k : Int)])) := Lib.hid fun k h h2 => by rw [hSt]; exact if_pos ⟨h, of_decide_eq_true h2⟩
  have HZ : Hid (∀ k : Nat, ¬ (b.ns.getD k 0 = a.ns.getD l.length 0 ∧ decide (fitsP a b (l ++ [(k : Int)])) = true) → St k = []) := Lib.hid fun k h => by rw [hSt]; exact if_neg fun h2 => h ⟨h2.1, decide_eq_true h2.2⟩
  have HSUC : Hid (∀ k, ((ps ++ (List.range k).flatMap St).take 2001 ++ St k).take 2001 = (ps ++ (List.range (k + 1)).flatMap St).take 2001) := Lib.hid fun k => by
    rw [take_app, List.range_succ, List.flatMap_append, List.flatMap_singleton]
  have HSAME : Hid (∀ k, St k = [] → (ps ++ (List.range (k + 1)).flatMap St).take 2001 = (ps ++ (List.range k).flatMap St).take 2001) := Lib.hid fun k h => by
    rw [← HSUC.out k, h, List.append_nil, List.take_take, Nat.min_self]
  rw [hE]
  have HFT := Lib.hid (fun (V : World) (hV : Below w.heap.size w V) (k : Nat) (x : Value) (B : Nat) (hO : OwnI V B x (l ++ [(k : Int)])) => show Calls Tryd.prog 72 #[gval An a.ns.length cn Ae a.es.length ce, gval Bn b.ns.length dn Be b.es.length de, x] V fun e w' => e = .returned (.bool (decide (fitsP a b (l ++ [(k : Int)])))) ∧ Below V.heap.size V w' by
    obtain ⟨A, c, rfl, hr⟩ := OwnE.reads hO
    exact fits_any a b (l ++ [(k : Int)]) An cn Ae ce Bn dn Be de A c V (hT.up hV) (hU.up hV) hv (by simp; omega) hr)
  clear hE hSt hbig
  have hrow : RowQ w.heap.size u v ((ps ++ (List.range 0).flatMap St).take 2001) := by simpa [List.take_of_length_le hps] using hR
  obtain ⟨g2, o2, rfl, hg2, hc2⟩ := Ints.cells hT.ns hlt
  have HC2 := Lib.hid (hc2 l.length hlt)
  have HJ0 : Hid (NdJ a b (some ⟨g2, o2, none⟩) cn Ae ce Bn dn Be de w u v vN l v ((ps ++ (List.range 0).flatMap St).take 2001) _) := Lib.hid (NdJ.start (a := a) (b := b) hu hN hrow)
  have HCU : Hid (∀ V, Below w.heap.size w V → V.cell? ⟨g2, o2 + l.length, none⟩ = some (.int .i64 (a.ns.getD l.length 0))) := Lib.hid fun V hV => cell_up hV HC2.out
  have HU := Lib.hid hU
  have HUB := Lib.hid hu
  have HRU := Lib.hid hR
  obtain ⟨rA, rc, rfl⟩ := hR.slice
  obtain ⟨nA, nc, rfl⟩ := OwnE.slice hN
  have HG2 : Hid (g2 < w.heap.size) := Lib.hid hg2
  clear hN hR hu hT hU hc2 hg2 hlt hrow HC2 ih hd hps
  have c0 := (cell2 HJ0.out.b1).1
  go_enter Tryd.func57, Tryd.ntmps57
  go_wp2_with fail
  clear c0 t1 t2 t3 t4 t5
  go_loopw [3, 9] (fun v x wr => ∃ k : Nat, k ≤ b.ns.length ∧ x = .int .i64 (k : Int) ∧ NdJ a b (some ⟨g2, o2, none⟩) cn Ae ce Bn dn Be de w u (.slice rA ps.length rc) (.slice nA l.length nc) l v ((ps ++ (List.range k).flatMap St).take 2001) wr) (fun _ x _ => b.ns.length - (intOf x).toNat)
  case atStart => exact ⟨0, Nat.zero_le _, rfl, HJ0.out⟩
  case round =>
    obtain ⟨k, hk, rfl, hJ⟩ := hrel
    have HJ := Lib.hid hJ
    have c0 := (cell2 hJ.b1).1
    have c2 := (cell2 hJ.b2).1
    clear hJ HJ0
    by_cases hkl : k < b.ns.length
    case neg =>
      have hke : k = b.ns.length := by omega
      clear hkl c0
      subst hke
      go_wp2_with fail
      go_ret
      exact ⟨_, rfl, HJ.out.row, HJ.out.gr, HJ.out.ow⟩
    obtain ⟨g3, o3, rfl, hg3, hc3⟩ := Ints.cells (HU.out.ns.below HJ.out.be) hkl
    have e1 := hc3 k hkl
    have m1 := HCU.out wr HJ.out.be
    have j0 : (0 : Int) ≤ (k : Int) := by omega
    have j1 : (k : Int) < (b.ns.length : Int) := by omega
    have j2 : ((k : Int)).toNat = k := by omega
    have f0 : (0 : Int) ≤ (l.length : Int) := by omega
    have f1 : (l.length : Int) < (a.ns.length : Int) := by have := HLL.out; omega
    have f2 : ((l.length : Int)).toNat = l.length := by omega
    have HM4 : Hid (b.ns.length - ((k : Int) + 1).toNat < b.ns.length - ((k : Int)).toNat) := Lib.hid (by omega)
    have HKL := Lib.hid hkl
    have HKY := Lib.hid (HY.out k)
    have HKZ := Lib.hid (HZ.out k)
    have HKS := Lib.hid (HSUC.out k)
    have HKA := Lib.hid (HSAME.out k)
    clear hc3 hkl hg3
    generalize a.ns.getD l.length 0 = xa at *
    generalize b.ns.getD k 0 = xb at *
    have HSD : Hid ((fun u0 : World => u0.cell? ⟨u.heap.size, 0, none⟩ = some (.slice (some ⟨g2, o2, none⟩) a.ns.length cn) ∧ u0.cell? ⟨u.heap.size + 1, 0, none⟩ = some (.slice (some ⟨g3, o3, none⟩) b.ns.length dn) ∧ u0.cell? ⟨g3, o3 + k, none⟩ = some (.int .i64 xb) ∧ u0.cell? ⟨g2, o2 + l.length, none⟩ = some (.int .i64 xa)) wr.drew) := Lib.hid ⟨cell_up (below_d _) c0, cell_up (below_d _) c2, cell_up (below_d _) e1, cell_up (below_d _) m1⟩
    have HJD := Lib.hid (HJ.out.up (below_d wr))
    go_wp2_with fail
    clear c0 c2 e1 m1 HJ
    refine wp_region_noPanic ?_
    refine wp_region_held_drew (S := (fun u0 : World => u0.cell? ⟨u.heap.size, 0, none⟩ = some (.slice (some ⟨g2, o2, none⟩) a.ns.length cn) ∧ u0.cell? ⟨u.heap.size + 1, 0, none⟩ = some (.slice (some ⟨g3, o3, none⟩) b.ns.length dn) ∧ u0.cell? ⟨g3, o3 + k, none⟩ = some (.int .i64 xb) ∧ u0.cell? ⟨g2, o2 + l.length, none⟩ = some (.int .i64 xa))) (by kernel_rfl) (HSD.out) (fun hHeld => ?_)
    refine wpAnyH_take (i := 0) (v := ?_) (oper_at (r := _) rfl) (by kernel_rfl) (by kernel_rfl) (by kernel_rfl) (fun _ _ _ h => h) (Or.inl ⟨by rfl, ?_⟩) (by assumption) ?_
    rotate_left
    · intro w hSw; try dsimp only at hSw
      go_simp
      try with_reducible rfl
    try simp only [Act.put, List.setIfInBounds_toArray, List.set_cons_zero, List.set_cons_succ]
    refine wpAnyH_take (i := 1) (v := ?_) (oper_at (r := _) rfl) (by kernel_rfl) (by kernel_rfl) (by kernel_rfl) (fun _ _ _ h => h) (Or.inl ⟨by rfl, ?_⟩) (by assumption) ?_
    rotate_left
    · intro w hSw; try dsimp only at hSw
      go_simp
      try with_reducible rfl
    try simp only [Act.put, List.setIfInBounds_toArray, List.set_cons_zero, List.set_cons_succ]
    refine wpAnyH_take (i := 2) (v := ?_) (oper_at (r := _) rfl) (by kernel_rfl) (by kernel_rfl) (by kernel_rfl) (fun _ _ _ h => h) (Or.inl ⟨by rfl, ?_⟩) (by assumption) ?_
    rotate_left
    · intro w hSw; try dsimp only at hSw
      go_simp
      try with_reducible rfl
    try simp only [Act.put, List.setIfInBounds_toArray, List.set_cons_zero, List.set_cons_succ]
    refine wpAnyH_take (i := 3) (v := ?_) (oper_at (r := _) rfl) (by kernel_rfl) (by kernel_rfl) (by kernel_rfl) (fun _ _ _ h => h) (Or.inl ⟨by rfl, ?_⟩) (by assumption) ?_
    rotate_left
    · intro w hSw; try dsimp only at hSw
      go_simp
      try with_reducible rfl
    try simp only [Act.put, List.setIfInBounds_toArray, List.set_cons_zero, List.set_cons_succ]
    refine wpAnyH_take (i := 4) (v := ?_) (oper_at (r := _) rfl) (by kernel_rfl) (by kernel_rfl) (by kernel_rfl) (fun _ _ _ h => h) (Or.inl ⟨by rfl, ?_⟩) (by assumption) ?_
    rotate_left
    · intro w hSw; try dsimp only at hSw
      go_simp
      try with_reducible rfl
    try simp only [Act.put, List.setIfInBounds_toArray, List.set_cons_zero, List.set_cons_succ]
    refine wpAnyH_take (i := 5) (v := ?_) (oper_at (r := _) rfl) (by kernel_rfl) (by kernel_rfl) (by kernel_rfl) (fun _ _ _ h => h) (Or.inl ⟨by rfl, ?_⟩) (by assumption) ?_
    rotate_left
    · intro w hSw; try dsimp only at hSw
      go_simp
      try with_reducible rfl
    try simp only [Act.put, List.setIfInBounds_toArray, List.set_cons_zero, List.set_cons_succ]
    refine wpAnyH_take (i := 6) (v := ?_) (oper_at (r := _) rfl) (by kernel_rfl) (by kernel_rfl) (by kernel_rfl) (fun _ _ _ h => h) (Or.inl ⟨by rfl, ?_⟩) (by assumption) ?_
    rotate_left
    · intro w hSw; try dsimp only at hSw
      go_simp
      try with_reducible rfl
    try simp only [Act.put, List.setIfInBounds_toArray, List.set_cons_zero, List.set_cons_succ]
    refine wpAnyH_take (i := 7) (v := ?_) (oper_at (r := _) rfl) (by kernel_rfl) (by kernel_rfl) (by kernel_rfl) (fun _ _ _ h => h) (Or.inl ⟨by rfl, ?_⟩) (by assumption) ?_
    rotate_left
    · intro w hSw; try dsimp only at hSw
      go_simp
      try with_reducible rfl
    try simp only [Act.put, List.setIfInBounds_toArray, List.set_cons_zero, List.set_cons_succ]
    refine wpAnyH_take (i := 8) (v := ?_) (oper_at (r := _) rfl) (by kernel_rfl) (by kernel_rfl) (by kernel_rfl) (fun _ _ _ h => h) (Or.inl ⟨by rfl, ?_⟩) (by assumption) ?_
    rotate_left
    · intro w hSw; try dsimp only at hSw
      go_simp
      try with_reducible rfl
    try simp only [Act.put, List.setIfInBounds_toArray, List.set_cons_zero, List.set_cons_succ]
    refine wpAnyH_take (i := 9) (v := ?_) (oper_at (r := _) rfl) (by kernel_rfl) (by kernel_rfl) (by kernel_rfl) (fun _ _ _ h => h) (Or.inl ⟨by rfl, ?_⟩) (by assumption) ?_
    rotate_left
    · intro w hSw; try dsimp only at hSw
      go_simp
      try with_reducible rfl
    try simp only [Act.put, List.setIfInBounds_toArray, List.set_cons_zero, List.set_cons_succ]
    refine wpAnyH_take (i := 10) (v := ?_) (oper_at (r := _) rfl) (by kernel_rfl) (by kernel_rfl) (by kernel_rfl) (fun _ _ _ h => h) (Or.inl ⟨by rfl, ?_⟩) (by assumption) ?_
    rotate_left
    · intro w hSw; try dsimp only at hSw
      go_simp
      try with_reducible rfl
    try simp only [Act.put, List.setIfInBounds_toArray, List.set_cons_zero, List.set_cons_succ]
    by_cases he : xb = xa
    case neg =>
      have t1 : (xb != xa) = true := bne_iff_ne.2 he
      have HNS : Hid ((ps ++ (List.range (k + 1)).flatMap St).take 2001 = (ps ++ (List.range k).flatMap St).take 2001) := Lib.hid (HKA.out (HKZ.out fun h => he h.1))
      clear he
      refine wpAnyH_take (i := 11) (v := ?_) (oper_at (r := _) rfl) (by kernel_rfl) (by kernel_rfl) (by kernel_rfl) (fun _ _ _ h => h) (Or.inl ⟨by rfl, ?_⟩) (by assumption) ?_
      rotate_left
      · intro w hSw; try dsimp only at hSw
        go_simp
        try with_reducible rfl
      try simp only [Act.put, List.setIfInBounds_toArray, List.set_cons_zero, List.set_cons_succ]
      refine wpAnyH_done (by kernel_rfl) ?_ _
      refine NoPanic.normal ?_
      go_wp2_with fail
      go_roundw
      case rel => exact ⟨k + 1, HKL.out, by go_num, by rw [HNS.out]; exact HJD.out⟩
      case measure => exact HM4.out
    subst he
    refine wpAnyH_take (i := 11) (v := ?_) (oper_at (r := _) rfl) (by kernel_rfl) (by kernel_rfl) (by kernel_rfl) (fun _ _ _ h => h) (Or.inl ⟨by rfl, ?_⟩) (by assumption) ?_
    rotate_left
    · intro w hSw; try dsimp only at hSw
      go_simp
      try with_reducible rfl
    try simp only [Act.put, List.setIfInBounds_toArray, List.set_cons_zero, List.set_cons_succ]
    refine wpAnyH_done (by kernel_rfl) ?_ _
    refine NoPanic.normal ?_
    generalize wr.drew = wq at *
    have HK := Lib.hid (HFT.out)
    have HL1 := Lib.hid (heap_alloc_new wq (.cells #[] 3))
    have HA1 : Hid (Below wq.heap.size wq (wq.alloc (.cells #[] 3))) := Lib.hid ((Below.refl _ _).alloc (Nat.le_refl _) _)
    obtain ⟨A0, k0, en, hr1⟩ := OwnE.reads HJD.out.rn
    injection en with en _ en2
    subst en en2
    have HR1 := Lib.hid (Reads.below hr1 HA1.out)
    clear hr1
    go_wp2_with (at_builtin; refine wpList_append_many (E := EInt) (w := wq.alloc (.cells #[] 3)) rfl _ _ 22 3 rfl Tryd.underlying22 infoInt rfl (by decide) (by decide) wq.heap.size _ [] rfl ?y1 nA l.length nc wq.heap.size l rfl rfl ?y2 ?y3 ?y4 ?y5 ?_)
    case y1 => exact OwnE.empty HL1.out (Nat.le_refl _)
    case y2 => exact HR1.out
    case y4 => have := HLL.out; omega
    intro v1 w1 ho1 _ hb1 _
    have HO1 := Lib.hid (ho1.cast (List.nil_append l))
    have HB1 := Lib.hid (HA1.out.trans hb1)
    clear ho1 hb1 HL1 HA1 HR1
    have HL2 := Lib.hid (heap_alloc_new w1 (.cells #[.int .i64 (k : Int)] 3))
    have HB2 : Hid (Below wq.heap.size wq (w1.alloc (.cells #[.int .i64 (k : Int)] 3))) := Lib.hid (HB1.out.alloc HB1.out.size _)
    have HO2 := Lib.hid (OwnE.alloc HO1.out (.cells #[.int .i64 (k : Int)] 3))
    clear HO1
    go_wp2_with (at_builtin; refine wpList_append_E (E := EInt) (w := w1.alloc (.cells #[.int .i64 (k : Int)] 3)) rfl _ _ 22 3 rfl Tryd.underlying22 infoInt rfl (by decide) (by decide) wq.heap.size v1 l rfl ?z1 ⟨w1.heap.size, 0, none⟩ 1 (k : Int) rfl ?z2 ?z3 ?z4 ?_)
    case z1 => exact HO2.out
    case z2 => exact one_cells HL2.out
    case z3 => have := HLL.out; omega
    case z4 => exact HB2.out.size
    intro v2 w2 ho2 _ hb2
    have HO3 := Lib.hid ho2
    have HB3 := Lib.hid (HB2.out.trans hb2)
    have HJ2 := Lib.hid (HJD.out.up HB3.out)
    have HJQ : Hid (w.heap.size ≤ wq.heap.size) := Lib.hid HJD.out.be.size
    clear ho2 hb2 HL2 HB2 HO2 HB1 HJD
    have c0 := (cell2 HJ2.out.b1).1
    have c1 := (cell2 HJ2.out.b1).2
    have c2 := (cell2 HJ2.out.b2).1
    have c3 := (cell2 HJ2.out.b2).2
    go_wp2_with fail
    refine (HK.out w2 HJ2.out.be k v2 _ HO3.out).mono ?_
    rintro e w3 ⟨rfl, hb3⟩
    have HJ3 := Lib.hid (HJ2.out.up hb3)
    have HO4 := Lib.hid (OwnE.mono (OwnE.below HO3.out hb3 (Nat.le_refl _)) HJQ.out)
    clear hb3 HJ2 HO3 c0 c1 c2 c3
    generalize decide (fitsP a b (l ++ [(k : Int)])) = Q at *
    cases Q with
    | false =>
      have HNS : Hid ((ps ++ (List.range (k + 1)).flatMap St).take 2001 = (ps ++ (List.range k).flatMap St).take 2001) := Lib.hid (HKA.out (HKZ.out fun h => by cases h.2))
      go_wp2_with fail
      go_roundw
      case rel => exact ⟨k + 1, HKL.out, by go_num, by rw [HNS.out]; exact HJ3.out⟩
      case measure => exact HM4.out
    | true =>
      have HNS : Hid ((ps ++ (List.range (k + 1)).flatMap St).take 2001 = (((ps ++ (List.range k).flatMap St).take 2001) ++ ndR a b d (l ++ [(k : Int)])).take 2001) := Lib.hid (by rw [← HKS.out, HKY.out trivial rfl])
      have c0 := (cell2 HJ3.out.b1).1
      have c1 := (cell2 HJ3.out.b1).2
      have c2 := (cell2 HJ3.out.b2).1
      have c3 := (cell2 HJ3.out.b2).2
      go_wp2_with fail
      refine (HIH.out w3 v2 _ (l ++ [(k : Int)]) _ HJ3.out.be HO4.out HJ3.out.row (take_len _ _) (by have := HLL.out; simp; omega)).mono ?_
      rintro e w9 ⟨v9, rfl, hr9, hg9, ho9⟩
      have HJN := Lib.hid (HJ3.out.next hr9 hg9 ho9)
      clear hr9 hg9 ho9 c0 c1 c2 c3
      go_wp2_with fail
      go_roundw
      case rel => exact ⟨k + 1, HKL.out, by go_num, by rw [HNS.out]; exact HJN.out⟩
      case measure => exact HM4.out


end Go.Proofs.YtaeelanbkdkppaaDoor

/-
  The reference's All; MorphismAll.
-/
namespace Go.Proofs.YtaeelanbkdkppaaDoor
open Go.RowKit Go.Shelf

theorem nodes_all (a b : Gr) (An : Option Addr) (cn : Nat) (Ae : Option Addr) (ce : Nat) (Bn : Option Addr) (dn : Nat) (Be : Option Addr) (de : Nat) (w : World) (hT : GrAt w An cn Ae ce a) (hU : GrAt w Bn dn Be de b) (hv : validE a = 0) : ∀ d, NodC a b An cn Ae ce Bn dn Be de w d := by
  intro d
  induction d with
  | zero => exact nod_end a b An cn Ae ce Bn dn Be de w (edges_all a b An cn Ae ce Bn dn Be de w hT hU hv _)
  | succ d ih => exact nod_step a b An cn Ae ce Bn dn Be de w hT hU hv d ih

set_option maxRecDepth 100000 in
set_option maxHeartbeats 4000000 in
theorem allR_any (a b : Gr) (An : Option Addr) (cn : Nat) (Ae : Option Addr) (ce : Nat) (Bn : Option Addr) (dn : Nat) (Be : Option Addr) (de : Nat) (w : World) (hTa : GrAt w An cn Ae ce a) (hTb : GrAt w Bn dn Be de b) :
    Calls Tryd.prog 32 #[gval An a.ns.length cn Ae a.es.length ce, gval Bn b.ns.length dn Be b.es.length de] w fun e w' => (∃ v, e = .returned (.tuple #[v, .int .i64 (allE a b : Int)]) ∧ IsP w' v (allS a b)) ∧ Below w.heap.size w w' := by
  have HAE : Hid (allE a b = if chkE a b ≠ 0 then chkE a b else if 2000 < (allR a b).length then 3 else 0) := Lib.hid rfl
  have HAS : Hid (allS a b = if allE a b = 0 then allR a b else []) := Lib.hid rfl
  have HCE : Hid (chkE a b = if validE a ≠ 0 then validE a else validE b) := Lib.hid rfl
  have HVA := Lib.hid (fun (u : World) (hu : Below w.heap.size w u) => validR_any a An cn Ae ce u (hTa.up hu))
  have HVB := Lib.hid (fun (u : World) (hu : Below w.heap.size w u) => validR_any b Bn dn Be de u (hTb.up hu))
  have HND := Lib.hid (fun (hv : validE a = 0) (u : World) (hu : Below w.heap.size w u) => nodes_all a b An cn Ae ce Bn dn Be de w hTa hTb hv a.ns.length u (.slice none 0 0) (.slice none 0 0) [] [] hu (OwnE.nil _ _ _) (RowQ.nil _ _) (by simp) (by simp))
  have HRR : Hid ((([] : List Mo) ++ ndR a b a.ns.length []).take 2001 = (allR a b).take 2001) := Lib.hid rfl
  have HS0 : Hid (SV w [([.slice An a.ns.length cn, .slice Ae a.es.length ce], 25), ([.slice Bn b.ns.length dn, .slice Be b.es.length de], 25)] _) := Lib.hid (SV.push (SV.push (SV.nil w) rfl [.slice An a.ns.length cn, .slice Ae a.es.length ce] 25) (by simp) [.slice Bn b.ns.length dn, .slice Be b.es.length de] 25)
  clear hTa hTb
  generalize allE a b = E at *
  generalize allS a b = L at *
  generalize chkE a b = z at *
  generalize (([] : List Mo) ++ ndR a b a.ns.length []).take 2001 = R at *
  generalize allR a b = RL at *
  generalize validE a = za at *
  generalize validE b = zb at *
  have c0 := HS0.out.cell (i := 0) (j := 0) rfl rfl
  have c1 := HS0.out.cell (i := 0) (j := 1) rfl rfl
  simp only [Nat.add_zero] at c0 c1
  go_enter Tryd.func32, Tryd.ntmps32
  go_wp2_with fail
  refine (HVA.out _ HS0.out.1).mono ?_
  rintro e w1 ⟨rfl, hb1⟩
  have HS1 := Lib.hid (HS0.out.up hb1)
  clear hb1 HS0 HVA c0 c1
  by_cases hza : za = 0
  case neg =>
    have t1 : ((za : Int) != 0) = true := by simp; omega
    have he : E = za := by rw [HAE.out, HCE.out, if_pos hza, if_pos hza]
    have HE := Lib.hid he
    have HLN : Hid (L = []) := Lib.hid (by rw [HAS.out, if_neg (by rw [he]; exact hza)])
    clear hza he
    go_wp2_with fail
    refine bodyPost_ret (v := .tuple #[.slice none 0 0, .int .i64 (za : Nat)]) (by simp [results, Tryd.results32, go_sem]) rfl ?_
    exact ⟨⟨_, by rw [HE.out], by rw [HLN.out]; exact isP_nil _⟩, HS1.out.1⟩
  subst hza
  have HNE := Lib.hid (HND.out rfl)
  clear HND
  have c2 := HS1.out.cell (i := 1) (j := 0) rfl rfl
  have c3 := HS1.out.cell (i := 1) (j := 1) rfl rfl
  go_wp2_with fail
  refine (HVB.out _ HS1.out.1).mono ?_
  rintro e w2 ⟨rfl, hb2⟩
  have HS2 := Lib.hid (HS1.out.up hb2)
  clear hb2 HS1 HVB c2 c3
  by_cases hzb : zb = 0
  case neg =>
    have t1 : ((zb : Int) != 0) = true := by simp; omega
    have hz : z = zb := by rw [HCE.out, if_neg (fun h => h rfl)]
    have he : E = zb := by rw [HAE.out, hz, if_pos hzb]
    have HE := Lib.hid he
    have HLN : Hid (L = []) := Lib.hid (by rw [HAS.out, if_neg (by rw [he]; exact hzb)])
    clear hzb he hz
    go_wp2_with fail
    refine bodyPost_ret (v := .tuple #[.slice none 0 0, .int .i64 (zb : Nat)]) (by simp [results, Tryd.results32, go_sem]) rfl ?_
    exact ⟨⟨_, by rw [HE.out], by rw [HLN.out]; exact isP_nil _⟩, HS2.out.1⟩
  subst hzb
  have HZ : Hid (z = 0) := Lib.hid (by rw [HCE.out, if_neg (fun h => h rfl)])
  have c0 := HS2.out.cell (i := 0) (j := 0) rfl rfl
  have c1 := HS2.out.cell (i := 0) (j := 1) rfl rfl
  have c2 := HS2.out.cell (i := 1) (j := 0) rfl rfl
  have c3 := HS2.out.cell (i := 1) (j := 1) rfl rfl
  simp only [Nat.add_zero] at c0 c1
  go_wp2_with fail
  refine (HNE.out _ HS2.out.1).mono ?_
  rintro e w3 ⟨v3, rfl, hr, hg, _⟩
  have HB3 : Hid (Below w.heap.size w w3) := Lib.hid (below_grq HS2.out.1 (Nat.le_refl _) (RowQ.nil _ _) hg)
  have HP := Lib.hid hr.isP
  obtain ⟨rA, rc, rfl⟩ := hr.slice
  clear hr hg c0 c1 c2 c3 HNE
  by_cases hbig : 2000 < RL.length
  · have hl : R.length = 2001 := by rw [HRR.out, List.length_take]; omega
    have t1 : (2000 : Int) < (R.length : Int) := by omega
    have he : E = 3 := by rw [HAE.out, HZ.out, if_neg (fun h => h rfl), if_pos hbig]
    have HE := Lib.hid he
    have HLN : Hid (L = []) := Lib.hid (by rw [HAS.out, if_neg (by rw [he]; decide)])
    clear hl hbig he
    go_wp2_with fail
    refine bodyPost_ret (v := .tuple #[.slice none 0 0, .int .i64 3]) (by simp [results, Tryd.results32, go_sem]) rfl ?_
    exact ⟨⟨_, by rw [HE.out]; rfl, by rw [HLN.out]; exact isP_nil _⟩, HB3.out⟩
  · have hR : R = RL := by rw [HRR.out]; exact List.take_of_length_le (by omega)
    have t1 : ¬ (2000 : Int) < (R.length : Int) := by rw [hR]; omega
    have he : E = 0 := by rw [HAE.out, HZ.out, if_neg (fun h => h rfl), if_neg hbig]
    have HE := Lib.hid he
    have HLN : Hid (L = R) := Lib.hid (by rw [HAS.out, if_pos he, hR])
    clear hR hbig he
    go_wp2_with fail
    refine bodyPost_ret (v := .tuple #[.slice rA R.length rc, .int .i64 0]) (by simp [results, Tryd.results32, go_sem]) rfl ?_
    exact ⟨⟨_, by rw [HE.out]; rfl, by rw [HLN.out]; exact HP.out⟩, HB3.out⟩

end Go.Proofs.YtaeelanbkdkppaaDoor

/-
  MorphismAll.
-/
namespace Go.Proofs.YtaeelanbkdkppaaDoor
open Go.RowKit Go.Shelf

theorem allS_facts (a b : Gr) : (allS a b).length ≤ 2000 ∧ ∀ x ∈ allS a b, morE a b x = 0 ∧ x.ns.length ≤ 1000 ∧ x.es.length ≤ 1000 := by
  unfold allS
  by_cases h : allE a b = 0
  · rw [if_pos h]
    unfold allE at h
    by_cases h1 : chkE a b = 0
    · rw [if_neg (fun k => k h1)] at h
      have h2 : ¬ 2000 < (allR a b).length := fun k => by rw [if_pos k] at h; cases h
      obtain ⟨va, vb⟩ := chk_zero h1
      refine ⟨by omega, fun x hx => ?_⟩
      have hk := (mem_allR va vb).1 hx
      obtain ⟨q1, q2, _⟩ := valid_zero va
      exact ⟨mor_zero.2 hk, by have := hk.ln; omega, by have := hk.le; omega⟩
    · rw [if_pos h1] at h
      exact absurd h h1
  · rw [if_neg h]
    exact ⟨by simp, fun x hx => by simp at hx⟩
/-- the arrow that has no morphism -/
def toAr (b : Gr) (Bn : Option Addr) (dn : Nat) (Be : Option Addr) (de : Nat) : Ar := ⟨b, ⟨[], []⟩, Bn, dn, Be, de, none, 0, none, 0⟩
theorem toAr_at {w : World} {b : Gr} {Bn : Option Addr} {dn : Nat} {Be : Option Addr} {de : Nat} (h : GrAt w Bn dn Be de b) : ArAt w (toAr b Bn dn Be de) := ⟨h, .inl rfl, .inl rfl, by simp [toAr], by simp [toAr]⟩

set_option maxRecDepth 100000 in
set_option maxHeartbeats 8000000 in
theorem lawAll (a : Gr) (An : Option Addr) (cn : Nat) (Ae : Option Addr) (ce : Nat) (b : Gr) (Bn : Option Addr) (dn : Nat) (Be : Option Addr) (de : Nat) (w : World) (h00 : 0 < w.heap.size) (hT : TabW w) (hTa : GrAt w An cn Ae ce a) (hTb : GrAt w Bn dn Be de b) :
    Calls Tryd.prog 7 #[gval An a.ns.length cn Ae a.es.length ce, gval Bn b.ns.length dn Be b.es.length de] w fun e w' => e = .returned (.bool true) ∧ Below w.heap.size w w' := by
  have HAW := Lib.hid (awk h00 hT)
  have HFW := Lib.hid (fun (u : World) (hu : Below w.heap.size w u) k c (hB : ArsAt u k [toAr b Bn dn Be de]) => fewL_any a [toAr b Bn dn Be de] An cn Ae ce k c u (by simp) (hTa.up hu) (fun y hy => by rw [List.mem_singleton.1 hy]; exact toAr_at (hTb.up hu)) hB)
  have HARS : Hid (∀ W : World, ArsAt (W.alloc (.cells #[.slice Bn b.ns.length dn, .slice Be b.es.length de, .slice none 0 0, .slice none 0 0] 29)) W.heap.size [toAr b Bn dn Be de]) := Lib.hid (fun W => ars_one W (toAr b Bn dn Be de) 29)
  have HVA := Lib.hid (fun (u : World) (hu : Below w.heap.size w u) => validR_any a An cn Ae ce u (hTa.up hu))
  have HVB := Lib.hid (fun (u : World) (hu : Below w.heap.size w u) => validR_any b Bn dn Be de u (hTb.up hu))
  have HAM := Lib.hid (fun (u : World) (hu : Below w.heap.size w u) => all_any a b An cn Ae ce Bn dn Be de u (Nat.lt_of_lt_of_le h00 hu.size) (hT.up (hu.block 0 h00)) (hTa.up hu) (hTb.up hu))
  have HAR := Lib.hid (fun (u : World) (hu : Below w.heap.size w u) => allR_any a b An cn Ae ce Bn dn Be de u (hTa.up hu) (hTb.up hu))
  have HFA := Lib.hid (allS_facts a b)
  have HSA := Lib.hid (fun (u : World) A A' c c' (h1 : Pts u u.heap.size A (allS a b)) (h2 : Pts u u.heap.size A' (allS a b)) => show Calls Tryd.prog 33 #[.slice A (allS a b).length c, .slice A' (allS a b).length c'] u fun e w' => e = .returned (.bool true) ∧ Below u.heap.size u w' by
    have h := sameAll_any (allS a b) (allS a b) A A' c c' u (by have := HFA.out.1; omega) (fun x hx => (HFA.out.2 x hx).2) h1 h2
    rw [decide_eq_true rfl] at h
    exact h)
  have HVM := Lib.hid (fun (x : Mo) (hx : x ∈ allS a b) (u : World) (hu : Below w.heap.size w u) Xn xn Xe xe (r1 : Ints u u.heap.size Xn x.ns) (r2 : Ints u u.heap.size Xe x.es) => show Calls Tryd.prog 12 #[gval An a.ns.length cn Ae a.es.length ce, gval Bn b.ns.length dn Be b.es.length de, gval Xn x.ns.length xn Xe x.es.length xe] u fun e w' => e = .returned (.int .i64 0) ∧ Below u.heap.size u w' by
    obtain ⟨z1, z2, z3⟩ := HFA.out.2 x hx
    have h := validM_any a b x An cn Ae ce Bn dn Be de Xn xn Xe xe u (hTa.up hu) (hTb.up hu) r1 r2 z2 z3
    rw [z1] at h
    exact h)
  have HLL : Hid ((allS a b).length ≤ 2000) := Lib.hid HFA.out.1
  have HS0 : Hid (SV w [([.slice An a.ns.length cn, .slice Ae a.es.length ce], 25), ([.slice Bn b.ns.length dn, .slice Be b.es.length de], 25)] _) := Lib.hid (SV.push (SV.push (SV.nil w) rfl [.slice An a.ns.length cn, .slice Ae a.es.length ce] 25) (by simp) [.slice Bn b.ns.length dn, .slice Be b.es.length de] 25)
  clear hT h00 hTa hTb HFA
  generalize ([toAr b Bn dn Be de].all fewA && fewB a) = Q at *
  generalize allS a b = L at *
  generalize allE a b = E at *
  generalize validE a = za at *
  generalize validE b = zb at *
  go_enter Tryd.func7, Tryd.ntmps7
  go_wp2_with fail
  refine (HAW.out _ HS0.out.1).mono ?_
  rintro e w1 ⟨rfl, hb1⟩
  have HS1 := Lib.hid (HS0.out.up hb1)
  clear hb1 HS0
  have c0 := HS1.out.cell (i := 0) (j := 0) rfl rfl
  have c1 := HS1.out.cell (i := 0) (j := 1) rfl rfl
  have c2 := HS1.out.cell (i := 1) (j := 0) rfl rfl
  have c3 := HS1.out.cell (i := 1) (j := 1) rfl rfl
  simp only [Nat.add_zero] at c0 c1
  go_wp2_with fail
  have hb0 : Below w1.heap.size w1 (w1.alloc (.cells #[.slice Bn b.ns.length dn, .slice Be b.es.length de, .slice none 0 0, .slice none 0 0] 29)) := (Below.refl _ _).alloc (Nat.le_refl _) _
  refine (HFW.out _ (HS1.out.1.trans (hb0.mono HS1.out.1.size)) _ 1 (HARS.out w1)).mono ?_
  rintro e w2 ⟨rfl, hb2⟩
  have HS2 := Lib.hid (HS1.out.up (hb0.trans (hb2.mono hb0.size)))
  clear hb0 hb2 HS1 c0 c1 c2 c3
  cases Q
  · go_wp2_with fail
    refine (HAW.out _ HS2.out.1).mono ?_
    rintro e w3 ⟨rfl, hb3⟩
    go_wp2_with fail
    go_ret
    exact ⟨rfl, HS2.out.1.trans (hb3.mono HS2.out.1.size)⟩
  clear HAW HFW HARS
  go_upto_region 3 with fail
  go_cut [5] (fun v wc => ∃ wb : Bool, v = .bool wb ∧ SV w [([.slice An a.ns.length cn, .slice Ae a.es.length ce], 25), ([.slice Bn b.ns.length dn, .slice Be b.es.length de], 25)] wc)
  case first =>
    have c0 := HS2.out.cell (i := 0) (j := 0) rfl rfl
    have c1 := HS2.out.cell (i := 0) (j := 1) rfl rfl
    simp only [Nat.add_zero] at c0 c1
    have c2 := HS2.out.cell (i := 1) (j := 0) rfl rfl
    have c3 := HS2.out.cell (i := 1) (j := 1) rfl rfl
    go_wp2_with fail
    refine (HVA.out _ HS2.out.1).mono ?_
    rintro e w3 ⟨rfl, hb3⟩
    have HS3 := Lib.hid (HS2.out.up hb3)
    clear hb3 HS2 c0 c1 c2 c3 HVA
    by_cases hza : za = 0
    case neg =>
      have t1 : ((za : Int) != 0) = true := by simp; omega
      clear hza
      go_wp2_with fail
      go_meet
      exact ⟨true, rfl, HS3.out⟩
    have t1 : ((za : Int) != 0) = false := by simp; omega
    clear hza
    have c0 := HS3.out.cell (i := 0) (j := 0) rfl rfl
    have c1 := HS3.out.cell (i := 0) (j := 1) rfl rfl
    simp only [Nat.add_zero] at c0 c1
    have c2 := HS3.out.cell (i := 1) (j := 0) rfl rfl
    have c3 := HS3.out.cell (i := 1) (j := 1) rfl rfl
    go_wp2_with fail
    refine (HVB.out _ HS3.out.1).mono ?_
    rintro e w4 ⟨rfl, hb4⟩
    have HS4 := Lib.hid (HS3.out.up hb4)
    clear hb4 HS3 c0 c1 c2 c3 HVB
    by_cases hzb : zb = 0
    · have t2 : ((zb : Int) != 0) = false := by simp; omega
      clear hzb
      go_wp2_with fail
      go_meet
      exact ⟨_, rfl, HS4.out⟩
    · have t2 : ((zb : Int) != 0) = true := by simp; omega
      clear hzb
      go_wp2_with fail
      go_meet
      exact ⟨_, rfl, HS4.out⟩
  case rest =>
    obtain ⟨wb, rfl, hS⟩ := hcut
    have HS5 := Lib.hid hS
    clear hS HS2 HVA HVB
    go_upto_region 4 with fail
    go_cut [56] (fun v wc2 => ∃ q : Bool, v = .bool q ∧ SV w [([.slice An a.ns.length cn, .slice Ae a.es.length ce], 25), ([.slice Bn b.ns.length dn, .slice Be b.es.length de], 25)] wc2)
    case first =>
      have c0 := HS5.out.cell (i := 0) (j := 0) rfl rfl
      have c1 := HS5.out.cell (i := 0) (j := 1) rfl rfl
      simp only [Nat.add_zero] at c0 c1
      have c2 := HS5.out.cell (i := 1) (j := 0) rfl rfl
      have c3 := HS5.out.cell (i := 1) (j := 1) rfl rfl
      cases wb with
      | true =>
        go_wp2_with fail
        go_meet
        exact ⟨_, rfl, HS5.out⟩
      | false =>
        by_cases h1 : (5 : Int) < (a.ns.length : Int)
        · go_wp2_with fail
          go_meet
          exact ⟨_, rfl, HS5.out⟩
        by_cases h2 : (6 : Int) < (a.es.length : Int)
        · go_wp2_with fail
          go_meet
          exact ⟨_, rfl, HS5.out⟩
        by_cases h3 : (8 : Int) < (b.ns.length : Int)
        · go_wp2_with fail
          go_meet
          exact ⟨_, rfl, HS5.out⟩
        by_cases h4 : (14 : Int) < (b.es.length : Int)
        · go_wp2_with fail
          go_meet
          exact ⟨_, rfl, HS5.out⟩
        go_wp2_with fail
        go_meet
        exact ⟨_, rfl, HS5.out⟩
    case rest =>
      obtain ⟨q, rfl, hS⟩ := hcut
      have HS6 := Lib.hid hS
      clear hS HS5
      cases q with
      | true =>
        go_wp2_with fail
        go_ret
        exact ⟨rfl, HS6.out.1⟩
      | false =>
      have c0 := HS6.out.cell (i := 0) (j := 0) rfl rfl
      have c1 := HS6.out.cell (i := 0) (j := 1) rfl rfl
      simp only [Nat.add_zero] at c0 c1
      have c2 := HS6.out.cell (i := 1) (j := 0) rfl rfl
      have c3 := HS6.out.cell (i := 1) (j := 1) rfl rfl
      go_wp2_with fail
      refine (HAM.out _ HS6.out.1).mono ?_
      rintro e w7 ⟨⟨v7, rfl, hp7⟩, hb7⟩
      have HS7 := Lib.hid (HS6.out.up hb7)
      have HP7 := Lib.hid hp7
      clear hp7 hb7 HS6 HAM c0 c1 c2 c3
      have c0 := HS7.out.cell (i := 0) (j := 0) rfl rfl
      have c1 := HS7.out.cell (i := 0) (j := 1) rfl rfl
      simp only [Nat.add_zero] at c0 c1
      have c2 := HS7.out.cell (i := 1) (j := 0) rfl rfl
      have c3 := HS7.out.cell (i := 1) (j := 1) rfl rfl
      go_wp2_with fail
      refine (HAR.out _ HS7.out.1).mono ?_
      rintro e w8 ⟨⟨v8, rfl, hp8⟩, hb8⟩
      have HS8 := Lib.hid (HS7.out.up hb8)
      have HP8 := Lib.hid (HP7.out.up hb8)
      obtain ⟨A2, k2, rfl, hp8⟩ := hp8
      obtain ⟨A1, k1, rfl, hp7⟩ := HP8.out
      have HP1 := Lib.hid hp7
      have HP2 := Lib.hid hp8
      clear hp8 hp7 hb8 HS7 HP7 HP8 HAR c0 c1 c2 c3
      go_wp2_with fail
      refine (HSA.out _ A1 A2 _ _ HP1.out HP2.out).mono ?_
      rintro e w9 ⟨rfl, hb9⟩
      have HS9 := Lib.hid (HS8.out.up hb9)
      have HP9 := Lib.hid (show IsP w9 (.slice A1 L.length k1) L from ⟨A1, k1, rfl, DReads.up HP1.out hb9⟩)
      clear hb9 HS8 HP1 HP2 HSA
      go_wp2_with fail
      go_loopw [80] (fun v wr => ∃ i : Nat, i ≤ L.length ∧ v = .int .i64 (i : Int) ∧ SV w [([.slice An a.ns.length cn, .slice Ae a.es.length ce], 25), ([.slice Bn b.ns.length dn, .slice Be b.es.length de], 25)] wr ∧ IsP wr (.slice A1 L.length k1) L) (fun v _ => L.length - (intOf v).toNat)
      case atStart => exact ⟨0, Nat.zero_le _, rfl, HS9.out, HP9.out⟩
      case round =>
        obtain ⟨i, hi, rfl, hS, hP⟩ := hrel
        have HS := Lib.hid hS
        have HP := Lib.hid hP
        clear hS HS9 HP9
        by_cases hlt : i < L.length
        case neg =>
          have hie : i = L.length := by omega
          clear hlt hP
          subst hie
          go_wp2_with fail
          go_ret
          exact ⟨rfl, HS.out.1⟩
        obtain ⟨A9, d9, e9, hPP⟩ := hP
        injection e9 with e9 _ e8
        subst e9 e8
        obtain ⟨bb, off, cs, rfl, hbb, hr, hc⟩ := DReads.at hPP hlt
        obtain ⟨M1, q1, M2, q2, rfl, r1, r2⟩ := hr
        have y0 := hc 0 _ rfl
        have y1 := hc 1 _ rfl
        simp only [show DPart.size = 2 from rfl, Nat.add_zero] at y0 y1
        have hmem : L[i] ∈ L := List.getElem_mem hlt
        have HVX := Lib.hid (HVM.out L[i] hmem)
        have R1 := Lib.hid (show Ints wr wr.heap.size M1 L[i].ns from r1)
        have R2 := Lib.hid (show Ints wr wr.heap.size M2 L[i].es from r2)
        have i0 : (0 : Int) ≤ (i : Int) := by omega
        have i1 : (i : Int) < (L.length : Int) := by omega
        have i2 : ((i : Int)).toNat = i := by omega
        have HM : Hid (L.length - ((i : Int) + 1).toNat < L.length - ((i : Int)).toNat) := Lib.hid (by omega)
        have HLT := Lib.hid hlt
        have ll : L.length ≤ 2000 := HLL.out
        clear hc r1 r2 hPP hmem hbb hi
        generalize L[i] = x at *
        have c0 := HS.out.cell (i := 0) (j := 0) rfl rfl
        have c1 := HS.out.cell (i := 0) (j := 1) rfl rfl
        simp only [Nat.add_zero] at c0 c1
        have c2 := HS.out.cell (i := 1) (j := 0) rfl rfl
        have c3 := HS.out.cell (i := 1) (j := 1) rfl rfl
        clear hlt
        go_upto_region 13 with fail
        have hb : Below wr.heap.size wr (wr.alloc (.cells #[.slice M1 x.ns.length q1, .slice M2 x.es.length q2] 27)) := (Below.refl _ _).alloc (Nat.le_refl _) _
        have hx := heap_alloc_new wr (.cells #[.slice M1 x.ns.length q1, .slice M2 x.es.length q2] 27)
        obtain ⟨gx, hgx⟩ : ∃ g, g = wr.heap.size := ⟨_, rfl⟩
        rw [← hgx] at hx
        have HS1 := Lib.hid (HS.out.up hb)
        have HP1 := Lib.hid (HP.out.up hb)
        have Q1 := Lib.hid (Reads.up R1.out hb)
        have Q2 := Lib.hid (Reads.up R2.out hb)
        generalize wr.alloc (.cells #[.slice M1 x.ns.length q1, .slice M2 x.es.length q2] 27) = W1 at *
        rw [← hgx]
        obtain ⟨x0, x1⟩ := cell2 hx
        clear hgx hb y0 y1 c0 c1 c2 c3 HS HP R1 R2 hx
        have c0 := HS1.out.cell (i := 0) (j := 0) rfl rfl
        have c1 := HS1.out.cell (i := 0) (j := 1) rfl rfl
        simp only [Nat.add_zero] at c0 c1
        have c2 := HS1.out.cell (i := 1) (j := 0) rfl rfl
        have c3 := HS1.out.cell (i := 1) (j := 1) rfl rfl
        go_wp2_with fail
        refine (HVX.out _ HS1.out.1 M1 q1 M2 q2 Q1.out Q2.out).mono ?_
        rintro e w2 ⟨rfl, hb2⟩
        have HS2 := Lib.hid (HS1.out.up hb2)
        have HP2 := Lib.hid (HP1.out.up hb2)
        clear hb2 HS1 HP1 Q1 Q2 c0 c1 c2 c3 x0 x1
        go_wp2_with fail
        go_roundw
        case rel => exact ⟨i + 1, HLT.out, by go_num, HS2.out, HP2.out⟩
        case measure => exact HM.out

end Go.Proofs.YtaeelanbkdkppaaDoor

/-
  The arguments of the laws of morphisms, opened; the listed table.
-/
namespace Go.Proofs.YtaeelanbkdkppaaDoor
open Go.RowKit

/-- what the rows list -/
abbrev laidL : List (String × DataW Unit) := [("math/bits.deBruijn64tab", Rows.laid_math_bits_deBruijn64tab)]
theorem tab_of_laid {W : World} (h : laidMetH Tryd.prog laidL W) : TabW W ∧ 0 < W.heap.size := by
  rw [MakeChecks.laidMetH_plain _ _ _ (by kernel_rfl)] at h
  have hg : Tryd.prog.globalNamed "math/bits.deBruijn64tab" = some 0 := by kernel_rfl
  have e : (Rows.laid_math_bits_deBruijn64tab : DataW Unit) = Lib.tabData .u8 (List.map (fun n : Nat => (n : Int)) Lib.deBruijn64tab) := rfl
  unfold laidL at h
  rw [e] at h
  have t := Lib.tabIs_of_head (t := 151) hg (by kernel_rfl) Tryd.underlying151 Tryd.underlying5 (by kernel_rfl) (by kernel_rfl) h
  have hc : ∀ j, j < 64 → W.cell? ⟨0, j, none⟩ = some (.int .u8 (Lib.deBruijn64tab.getD j 0)) := fun j hj => by
    have hl : Lib.deBruijn64tab.length = 64 := rfl
    rw [t.cell hg j (by simp [hl, hj])]
    have h1 : Lib.deBruijn64tab[j]? = some (Lib.deBruijn64tab[j]'(by omega)) := List.getElem?_eq_getElem (by omega)
    simp [List.getD, h1]
  exact ⟨hc, World.block_lt_of_cell? _ _ (hc 0 (by decide))⟩
theorem met (os : Os) (args : Array Value) : laidMetH Tryd.prog laidL ((World.laidAll Tryd.prog os laidL).forCall (fun _ _ => 0) ⟨#[], args, []⟩).memory := by
  rw [MakeChecks.laidMetH_plain _ _ _ (by kernel_rfl)]
  exact laidMet_laidAll _ (by kernel_rfl) (by kernel_rfl)
theorem shaped (os : Os) (args : Array Value) : ((World.laidAll Tryd.prog os laidL).forCall (fun _ _ => 0) ⟨#[], args, []⟩).Shaped Tryd.prog := World.shaped_of_ZipB (by kernel_rfl) (by kernel_rfl)

section
open Go.ChangeShapes Go.WideShapes Go.Deep
variable {H : Type} {enc : TypeId × Value → H} {W : World} {fuel : Nat} {cs : List Value} {x : DataW H × List MemPlace}
theorem cellsMo : Tryd.prog.cellsOf 27 = 2 := by kernel_rfl
theorem cellsAr : Tryd.prog.cellsOf 29 = 4 := by kernel_rfl
theorem bytesInt : Tryd.prog.bytesOf 3 = 8 := by kernel_rfl
theorem open_Iw (h : DataW.trod enc Tryd.prog W 0 (fun _ => true) true fuel 22 cs = some x) :
    ∃ (A : Option Addr) (xs : List Int) (c : Nat), cs = [.slice A xs.length c] ∧ Ints W W.heap.size A xs ∧ xs.length ≤ c ∧ c ≤ maxLen ∧ ((∀ n ∈ x.1.weights Tryd.prog 22, n ≤ reachBytes) → xs.length ≤ 1152921504606846976) := by
  obtain ⟨A, xs, c, e, hR, h1, h2⟩ := open_I h
  refine ⟨A, xs, c, e, hR, h1, h2, fun hw => ?_⟩
  rcases open_slice Tryd.underlying22 h with ⟨e2, _⟩ | ⟨a, len, cap, m, n, Ed, Pl, e2, _, hlc, hcm, hm, e3, hi⟩
  · rw [e2] at e
    injection e with e
    injection e with _ e _
    omega
  · rw [e2] at e
    injection e with e
    injection e with _ e _
    subst e3
    have hb : (0x7ffffffff000 : Nat) = reachBytes := rfl
    have hw2 := hw _ (by simp only [DataW.weights, Tryd.underlying22]; exact List.mem_cons_self)
    rw [bytesInt, ← hb] at hw2
    simp at hw2
    omega
theorem weights_struct2 {T a b : TypeId} {f0 f1 : Field} {y0 y1 : DataW H} {p : List MemPlace} (hT : Tryd.prog.underlying T = some (.struct #[f0, f1])) (h0 : f0.type = a) (h1 : f1.type = b) (hx : x = (.agg [y0, y1], p)) (hw : ∀ n ∈ x.1.weights Tryd.prog T, n ≤ reachBytes) :
    (∀ n ∈ y0.weights Tryd.prog a, n ≤ reachBytes) ∧ (∀ n ∈ y1.weights Tryd.prog b, n ≤ reachBytes) := by
  subst hx h0 h1
  refine ⟨fun n hn => hw n ?_, fun n hn => hw n ?_⟩ <;> simp [DataW.weights, hT, DataW.weightsEach, hn]
theorem open_M (h : DataW.trod enc Tryd.prog W 0 (fun _ => true) true fuel 27 cs = some x) :
    ∃ (m : Mo) (An : Option Addr) (cn : Nat) (Ae : Option Addr) (ce : Nat), cs = [.slice An m.ns.length cn, .slice Ae m.es.length ce] ∧ Ints W W.heap.size An m.ns ∧ Ints W W.heap.size Ae m.es ∧ ((∀ n ∈ x.1.weights Tryd.prog 27, n ≤ reachBytes) → m.ns.length ≤ 1152921504606846976 ∧ m.es.length ≤ 1152921504606846976) := by
  obtain ⟨y0, y1, n, hx, hl, h0, h1⟩ := trod_struct2 Tryd.underlying27 h
  dsimp only at h0 h1
  rw [cellsInts] at h0 h1
  rw [cellsMo] at hl
  obtain ⟨An, ns, cn, e0, hN, _, _, w0⟩ := open_Iw h0
  obtain ⟨Ae, es, ce, e1, hE, _, _, w1⟩ := open_Iw h1
  refine ⟨⟨ns, es⟩, An, cn, Ae, ce, two_of hl e0 e1, hN, hE, fun hw => ?_⟩
  obtain ⟨q0, q1⟩ := weights_struct2 Tryd.underlying27 rfl rfl hx hw
  exact ⟨w0 q0, w1 q1⟩
theorem four_of2 {cs : List Value} (hl : cs.length = 4) {a b c d : Value} (h0 : (cs.drop 0).take 2 = [a, b]) (h1 : (cs.drop 2).take 2 = [c, d]) : cs = [a, b, c, d] := by
  match cs, hl with
  | [x, y, z, u], _ => simp at h0 h1; rw [h0.1, h0.2, h1.1, h1.2]
theorem open_R (h : DataW.trod enc Tryd.prog W 0 (fun _ => true) true fuel 29 cs = some x) (hw : ∀ n ∈ x.1.weights Tryd.prog 29, n ≤ reachBytes) :
    ∃ y : Ar, cs = [.slice y.An y.g.ns.length y.cn, .slice y.Ae y.g.es.length y.ce, .slice y.Mn y.m.ns.length y.mn, .slice y.Me y.m.es.length y.me] ∧ ArAt W y := by
  obtain ⟨y0, y1, n, hx, hl, h0, h1⟩ := trod_struct2 Tryd.underlying29 h
  dsimp only at h0 h1
  rw [cellsGr] at h0
  rw [cellsMo] at h1
  rw [cellsAr] at hl
  obtain ⟨g, An, cn, Ae, ce, e0, hG⟩ := open_G h0
  obtain ⟨m, Mn, mn, Me, me, e1, hN, hE, w1⟩ := open_M h1
  obtain ⟨_, q1⟩ := weights_struct2 Tryd.underlying29 rfl rfl hx hw
  obtain ⟨l1, l2⟩ := w1 q1
  exact ⟨⟨g, m, An, cn, Ae, ce, Mn, mn, Me, me⟩, four_of2 hl e0 e1, hG, hN, hE, l1, l2⟩
end

end Go.Proofs.YtaeelanbkdkppaaDoor
