import Derived.Test.YthnhacncnhknnaaDoorZ08
import Derived.Test.YthnhacncnhknnaaDoorZ06
import Derived.Test.YthnhacncnhknnaaDoorZ03
import Derived.Test.YthnhacncnhknnaaDoorZ07
import Derived.Test.YthnhacncnhknnaaDoorZ05
import Derived.Test.YthnhacncnhknnaaDoorZ02
/-
  Parts of graphs, the program: unite, Join, Meet, Image, Preimage. Printed by mkg3.py.
-/
namespace Go.Proofs.YthnhacncnhknnaaDoor
open Go.RowKit Go.Shelf

theorem distinctD_any (xs : List Int) (A : Option Addr) (c : Nat) (w : World) (hl : xs.length ≤ 1000) (hA : Ints w w.heap.size A xs) :
    Calls Tryd.prog 48 #[.slice A xs.length c] w fun e w' => ∃ v, e = .returned v ∧ OwnI w' w.heap.size v (dis xs) ∧ Below w.heap.size w w' := distinctG_any xs A c w hl hA
set_option maxHeartbeats 1000000 in
theorem uniteG_any (a b : List Int) (A A2 : Option Addr) (c c2 : Nat) (w : World) (la : a.length ≤ 400) (lb : b.length ≤ 400) (hA : Ints w w.heap.size A a) (hB : Ints w w.heap.size A2 b) :
    Calls Tryd.prog 53 #[.slice A a.length c, .slice A2 b.length c2] w fun e w' => ∃ v, e = .returned v ∧ OwnI w' w.heap.size v (dis (a ++ b)) ∧ Below w.heap.size w w' := by
  have HC := Lib.hid (fun (u : World) (g k : Nat) (hu : Below w.heap.size w u) (k0 : u.cell? ⟨g, 0, none⟩ = some (.slice A a.length c)) (k1 : u.cell? ⟨g, 1, none⟩ = some (.slice A2 b.length c2)) => concat_any A A2 a.length c b.length c2 k a b rfl rfl la lb u g u.heap.size (Nat.le_refl _) k0 k1 (World.block_lt_of_cell? _ _ k0) (Reads.up hA hu) (Reads.up hB hu))
  have HL : Hid ((a ++ b).length ≤ 1000) := Lib.hid (by simp; omega)
  clear hA hB la lb
  unfold dis
  generalize a ++ b = ab at *
  have HD := Lib.hid (fun (u : World) X x (hX : Ints u u.heap.size X ab) => distinctG_any ab X x u HL.out hX)
  go_enter Tryd.func53, Tryd.ntmps53
  go_wp2_with fail
  refine (HC.out _ w.heap.size _ ((Below.refl _ _).alloc (Nat.le_refl _) _) (cell2 (heap_alloc_new w _)).1 (cell2 (heap_alloc_new w _)).2).mono ?_
  rintro e w1 ⟨⟨v, rfl, ho⟩, hb⟩
  have HB1 : Hid (Below w.heap.size w w1) := Lib.hid (((Below.refl _ _).alloc (Nat.le_refl _) _).trans (hb.mono (by simp)))
  obtain ⟨X, x, rfl, hr⟩ := OwnE.reads ho
  have HQ := Lib.hid (HD.out w1 X x hr)
  clear ho hb hr HC HD
  go_wp2_with fail
  refine HQ.out.mono ?_
  rintro e w2 ⟨v2, rfl, ho2, hb2⟩
  have HO2 := Lib.hid (OwnE.mono ho2 HB1.out.size)
  have HB2 := Lib.hid (HB1.out.trans (hb2.mono HB1.out.size))
  obtain ⟨X2, x2, rfl⟩ := OwnE.slice ho2
  clear ho2 hb2
  go_wp2_with fail
  go_ret
  exact ⟨_, rfl, HO2.out, HB2.out⟩

set_option maxRecDepth 100000 in
set_option maxHeartbeats 4000000 in
theorem joinG_at (g : Gr) (p : Mo) (q : Mo) (An : Option Addr) (cn : Nat) (Ae : Option Addr) (ce : Nat) (Pn : Option Addr) (pn : Nat) (Pe : Option Addr) (pe : Nat) (Qn : Option Addr) (qn : Nat) (Qe : Option Addr) (qe : Nat) (w : World) (hg : GrAt w An cn Ae ce g) (hp : PtAt w Pn Pe p) (hq : PtAt w Qn Qe q) :
    GivesM 19 #[gval An g.ns.length cn Ae g.es.length ce, gval Pn p.ns.length pn Pe p.es.length pe, gval Qn q.ns.length qn Qe q.es.length qe] (twoE g p q) (joinP g p q) w := by
  have hS0 : SR w _ ((((w.alloc (.cells #[.slice An g.ns.length cn, .slice Ae g.es.length ce] 25)).alloc (.cells #[.slice Pn p.ns.length pn, .slice Pe p.es.length pe] 27)).alloc (.cells #[.slice Qn q.ns.length qn, .slice Qe q.es.length qe] 27)).alloc (.cells #[.slice none 0 0, .slice none 0 0] 27)) := SR.push (SR.push (SR.push (SR.push (SR.nil w) rfl _ _ _) (by simp) _ _ _) (by simp) _ _ _) (by simp) _ _ _
  have HS0 := Lib.hid hS0
  have HB7 := Lib.hid (fun (u : World) (hu : Below w.heap.size w u) => bothG_any g p q An cn Ae ce Pn pn Pe pe Qn qn Qe qe u (hg.up hu) (hp.up hu) (hq.up hu))
  have HC1 := Lib.hid (fun (u : World) (hu : Below w.heap.size w u) => fun (h : p.ns.length ≤ 400 ∧ q.ns.length ≤ 400) => uniteG_any p.ns q.ns Pn Qn pn qn u h.1 h.2 (Reads.up hp.ns hu) (Reads.up hq.ns hu))
  have HC2 := Lib.hid (fun (u : World) (hu : Below w.heap.size w u) => fun (h : p.es.length ≤ 400 ∧ q.es.length ≤ 400) => uniteG_any p.es q.es Pe Qe pe qe u h.1 h.2 (Reads.up hp.es hu) (Reads.up hq.es hu))
  have HZ : Hid (twoE g p q = 0 → (p.ns.length ≤ 400 ∧ q.ns.length ≤ 400) ∧ (p.es.length ≤ 400 ∧ q.es.length ≤ 400)) := Lib.hid fun h => by
    obtain ⟨hv, h1, h2⟩ := two_zero.1 h
    obtain ⟨v1, v2, _⟩ := valid_zero hv
    have a1 := asc_len h1.an h1.rn
    have a2 := asc_len h1.ae h1.re
    have a3 := asc_len h2.an h2.rn
    have a4 := asc_len h2.ae h2.re
    omega
  have HIM : Hid (twoE g p q = 0 → orP g p q = ⟨dis (p.ns ++ q.ns), dis (p.es ++ q.es)⟩) := Lib.hid fun h => by
    obtain ⟨hv, h1, h2⟩ := two_zero.1 h
    rw [dis_or h1.rn h2.rn, dis_or h1.re h2.re]; rfl
  have HI : Hid (joinP g p q = if twoE g p q = 0 then orP g p q else noM) := Lib.hid rfl
  clear hS0 hg hp hq
  generalize joinP g p q = R at *
  generalize twoE g p q = E at *
  refine givesM ?_
  go_enter Tryd.func19, Tryd.ntmps19
  obtain ⟨c0x, c0y⟩ := HS0.out.cell (i := 0) rfl
  obtain ⟨c1x, c1y⟩ := HS0.out.cell (i := 1) rfl
  obtain ⟨c2x, c2y⟩ := HS0.out.cell (i := 2) rfl
  obtain ⟨c3x, c3y⟩ := HS0.out.cell (i := 3) rfl
  simp only [Nat.add_zero] at c0x c0y
  have fr0 := HS0.out.free (i := 3) rfl 0
  have fr1 := HS0.out.free (i := 3) rfl 1
  go_wp2_with fail
  refine (HB7.out _ HS0.out.1).mono ?_
  rintro e w1 ⟨rfl, hb⟩
  have HS1 := Lib.hid (HS0.out.up hb)
  clear hb HS0 HB7 c0x c0y c1x c1y c2x c2y c3x c3y fr0 fr1
  obtain ⟨c0x, c0y⟩ := HS1.out.cell (i := 0) rfl
  obtain ⟨c1x, c1y⟩ := HS1.out.cell (i := 1) rfl
  obtain ⟨c2x, c2y⟩ := HS1.out.cell (i := 2) rfl
  obtain ⟨c3x, c3y⟩ := HS1.out.cell (i := 3) rfl
  simp only [Nat.add_zero] at c0x c0y
  have fr0 := HS1.out.free (i := 3) rfl 0
  have fr1 := HS1.out.free (i := 3) rfl 1
  by_cases h1 : E = 0
  case neg =>
    have HEE : Hid (E = E) := Lib.hid rfl
    have HR := Lib.hid (show R = noM by rw [HI.out, if_neg (by rw [HEE.out]; exact h1)])
    have t1 : ((E : Int) != 0) = true := by simp; omega
    clear h1
    go_wp2_with fail
    have hS2 := HS1.out.set (i := 3) rfl (.slice none 0 0) (.slice none 0 0)
    obtain ⟨r0, r1⟩ := hS2.cell (i := 3) rfl
    refine bodyPost_ret (v := .tuple #[gval none 0 0 none 0 0, .int .i64 ((E : Nat))]) (by simp [results, Tryd.results19, go_sem, r0, r1]) rfl ?_
    exact ⟨⟨_, rfl, by rw [HR.out]; exact isM_nil _⟩, hS2.1⟩
  have HEE := Lib.hid (show E = 0 from h1)
  have HR := Lib.hid (show R = ⟨dis (p.ns ++ q.ns), dis (p.es ++ q.es)⟩ by rw [HI.out, if_pos HEE.out]; exact HIM.out HEE.out)
  have t1 : ((E : Int) != 0) = false := by simp; omega
  obtain ⟨l1, l2⟩ := HZ.out HEE.out
  replace HC1 := Lib.hid (fun u hu => HC1.out u hu l1)
  replace HC2 := Lib.hid (fun u hu => HC2.out u hu l2)
  clear l1 l2 HZ HIM
  generalize dis (p.ns ++ q.ns) = L1 at *
  generalize dis (p.es ++ q.es) = L2 at *
  clear h1 HI
  go_wp2_with fail
  have HSd : Hid (SR w _ w1.drew) := Lib.hid (HS1.out.up (below_d _))
  have HSA : Hid ((fun u : World => u.cell? ⟨w.heap.size, 0, none⟩ = some (.slice An g.ns.length cn) ∧ u.cell? ⟨w.heap.size, 1, none⟩ = some (.slice Ae g.es.length ce) ∧ u.cell? ⟨w.heap.size + 1, 0, none⟩ = some (.slice Pn p.ns.length pn) ∧ u.cell? ⟨w.heap.size + 1, 1, none⟩ = some (.slice Pe p.es.length pe) ∧ u.cell? ⟨w.heap.size + 2, 0, none⟩ = some (.slice Qn q.ns.length qn) ∧ u.cell? ⟨w.heap.size + 2, 1, none⟩ = some (.slice Qe q.es.length qe)) w1.drew) := Lib.hid ⟨c0x, c0y, c1x, c1y, c2x, c2y⟩
  have HUP : Hid (∀ u u', (fun u : World => u.cell? ⟨w.heap.size, 0, none⟩ = some (.slice An g.ns.length cn) ∧ u.cell? ⟨w.heap.size, 1, none⟩ = some (.slice Ae g.es.length ce) ∧ u.cell? ⟨w.heap.size + 1, 0, none⟩ = some (.slice Pn p.ns.length pn) ∧ u.cell? ⟨w.heap.size + 1, 1, none⟩ = some (.slice Pe p.es.length pe) ∧ u.cell? ⟨w.heap.size + 2, 0, none⟩ = some (.slice Qn q.ns.length qn) ∧ u.cell? ⟨w.heap.size + 2, 1, none⟩ = some (.slice Qe q.es.length qe)) u → Below u.heap.size u u' → (fun u : World => u.cell? ⟨w.heap.size, 0, none⟩ = some (.slice An g.ns.length cn) ∧ u.cell? ⟨w.heap.size, 1, none⟩ = some (.slice Ae g.es.length ce) ∧ u.cell? ⟨w.heap.size + 1, 0, none⟩ = some (.slice Pn p.ns.length pn) ∧ u.cell? ⟨w.heap.size + 1, 1, none⟩ = some (.slice Pe p.es.length pe) ∧ u.cell? ⟨w.heap.size + 2, 0, none⟩ = some (.slice Qn q.ns.length qn) ∧ u.cell? ⟨w.heap.size + 2, 1, none⟩ = some (.slice Qe q.es.length qe)) u') := Lib.hid fun u u' h hb => ⟨cell_up hb h.1, cell_up hb h.2.1, cell_up hb h.2.2.1, cell_up hb h.2.2.2.1, cell_up hb h.2.2.2.2.1, cell_up hb h.2.2.2.2.2⟩
  have HWS : Hid (w.heap.size + 3 < w1.drew.heap.size) := Lib.hid (heap_lt (HS1.out.2 3 _ rfl))
  have HWL : Hid (w.heap.size ≤ w1.drew.heap.size) := Lib.hid HS1.out.1.size
  clear t1 c0x c0y c1x c1y c2x c2y c3x c3y fr0 fr1 HS1
  refine wp_region_noPanic ?_
  refine wp_region_held_drew (S := (fun u : World => u.cell? ⟨w.heap.size, 0, none⟩ = some (.slice An g.ns.length cn) ∧ u.cell? ⟨w.heap.size, 1, none⟩ = some (.slice Ae g.es.length ce) ∧ u.cell? ⟨w.heap.size + 1, 0, none⟩ = some (.slice Pn p.ns.length pn) ∧ u.cell? ⟨w.heap.size + 1, 1, none⟩ = some (.slice Pe p.es.length pe) ∧ u.cell? ⟨w.heap.size + 2, 0, none⟩ = some (.slice Qn q.ns.length qn) ∧ u.cell? ⟨w.heap.size + 2, 1, none⟩ = some (.slice Qe q.es.length qe))) (by kernel_rfl) (HSA.out) (fun hHeld => ?_)
  generalize w1.drew = wd at *
  refine wpAnyH_take (i := 0) (v := ?_) (oper_at (r := _) rfl) (by kernel_rfl) (by kernel_rfl) (by kernel_rfl) (fun _ _ _ h => h) (Or.inl ⟨by rfl, ?_⟩) (by assumption) ?_
  rotate_left
  · intro w hSw; try dsimp only at hSw
    go_simp
    try with_reducible rfl
  try simp only [Act.put, List.setIfInBounds_toArray, List.set_cons_zero, List.set_cons_succ]
  refine wpAnyH_take (i := 1) (v := ?_) (oper_at (r := _) rfl) (by kernel_rfl) (by kernel_rfl) (by kernel_rfl) (fun _ _ _ h => h) (Or.inl ⟨by rfl, ?_⟩) (by assumption) ?_
  rotate_left
  · intro w hSw; try dsimp only at hSw
    go_simp
    try with_reducible rfl
  try simp only [Act.put, List.setIfInBounds_toArray, List.set_cons_zero, List.set_cons_succ]
  refine wpAnyH_take (i := 2) (v := ?_) (oper_at (r := _) rfl) (by kernel_rfl) (by kernel_rfl) (by kernel_rfl) (fun _ _ _ h => h) (Or.inl ⟨by rfl, ?_⟩) (by assumption) ?_
  rotate_left
  · intro w hSw; try dsimp only at hSw
    go_simp
    try with_reducible rfl
  try simp only [Act.put, List.setIfInBounds_toArray, List.set_cons_zero, List.set_cons_succ]
  refine wpAnyH_take (i := 3) (v := ?_) (oper_at (r := _) rfl) (by kernel_rfl) (by kernel_rfl) (by kernel_rfl) (fun _ _ _ h => h) (Or.inl ⟨by rfl, ?_⟩) (by assumption) ?_
  rotate_left
  · intro w hSw; try dsimp only at hSw
    go_simp
    try with_reducible rfl
  try simp only [Act.put, List.setIfInBounds_toArray, List.set_cons_zero, List.set_cons_succ]
  refine wpAnyH_take (i := 5) (v := ?_) (oper_at (r := _) rfl) (by kernel_rfl) (by kernel_rfl) (by kernel_rfl) (fun _ _ _ h => h) (Or.inl ⟨by rfl, ?_⟩) (by assumption) ?_
  rotate_left
  · intro w hSw; try dsimp only at hSw
    go_simp
    try with_reducible rfl
  try simp only [Act.put, List.setIfInBounds_toArray, List.set_cons_zero, List.set_cons_succ]
  refine wpAnyH_take (i := 6) (v := ?_) (oper_at (r := _) rfl) (by kernel_rfl) (by kernel_rfl) (by kernel_rfl) (fun _ _ _ h => h) (Or.inl ⟨by rfl, ?_⟩) (by assumption) ?_
  rotate_left
  · intro w hSw; try dsimp only at hSw
    go_simp
    try with_reducible rfl
  try simp only [Act.put, List.setIfInBounds_toArray, List.set_cons_zero, List.set_cons_succ]
  refine wpAnyH_take (i := 7) (v := ?_) (oper_at (r := _) rfl) (by kernel_rfl) (by kernel_rfl) (by kernel_rfl) (fun _ _ _ h => h) (Or.inl ⟨by rfl, ?_⟩) (by assumption) ?_
  rotate_left
  · intro w hSw; try dsimp only at hSw
    go_simp
    try with_reducible rfl
  try simp only [Act.put, List.setIfInBounds_toArray, List.set_cons_zero, List.set_cons_succ]
  refine wpAnyH_take (i := 8) (v := ?_) (oper_at (r := _) rfl) (by kernel_rfl) (by kernel_rfl) (by kernel_rfl) (fun _ _ _ h => h) (Or.inl ⟨by rfl, ?_⟩) (by assumption) ?_
  rotate_left
  · intro w hSw; try dsimp only at hSw
    go_simp
    try with_reducible rfl
  try simp only [Act.put, List.setIfInBounds_toArray, List.set_cons_zero, List.set_cons_succ]
  refine wpAnyH_ready (rs := [4]) (by kernel_rfl) (by simp) ?_
  refine AllReadyH.cons (oper_at (r := _) rfl) (fun K hK => ?_) AllReadyH.nil
  go_simp
  refine (HC1.out _ HSd.out.1).mono ?_
  rintro e x2 ⟨v2, rfl, ho2, hb2⟩
  have HT2 := Lib.hid (HUP.out _ _ HSA.out hb2)
  have HLE := Lib.hid hb2.size
  have HSR2 := Lib.hid (HSd.out.up hb2)
  have HO2 := Lib.hid ho2
  obtain ⟨A2, d2, rfl⟩ := OwnE.slice ho2
  clear ho2 hb2
  go_wp2_with fail
  refine hK.out _ _ (HT2.out) (fun _ => ?_)
  clear hK K
  try simp only [Act.put, List.setIfInBounds_toArray, List.set_cons_zero, List.set_cons_succ]
  refine wpAnyH_ready (rs := [9]) (by kernel_rfl) (by simp) ?_
  refine AllReadyH.cons (oper_at (r := _) rfl) (fun K hK => ?_) AllReadyH.nil
  go_simp
  refine (HC2.out _ HSR2.out.1).mono ?_
  rintro e x3 ⟨v3, rfl, ho3, hb3⟩
  have HT3 := Lib.hid (HUP.out _ _ HT2.out hb3)
  have HSR3 := Lib.hid (HSR2.out.up hb3)
  have HOO := Lib.hid (OwnE.below HO2.out hb3 (Nat.le_refl _))
  have HO3 := Lib.hid ho3
  obtain ⟨A3, d3, rfl⟩ := OwnE.slice ho3
  clear ho3 hb3 HO2
  go_wp2_with fail
  refine hK.out _ _ (HT3.out) (fun _ => ?_)
  clear hK K
  try simp only [Act.put, List.setIfInBounds_toArray, List.set_cons_zero, List.set_cons_succ]
  refine wpAnyH_take (i := 10) (v := ?_) (oper_at (r := _) rfl) (by kernel_rfl) (by kernel_rfl) (by kernel_rfl) (fun _ _ _ h => h) (Or.inl ⟨by rfl, ?_⟩) (by assumption) ?_
  rotate_left
  · intro w hSw; try dsimp only at hSw
    go_simp
    try with_reducible rfl
  try simp only [Act.put, List.setIfInBounds_toArray, List.set_cons_zero, List.set_cons_succ]
  obtain ⟨c3x, c3y⟩ := HSR3.out.cell (i := 3) rfl
  have fr0 := HSR3.out.free (i := 3) rfl 0
  have fr1 := HSR3.out.free (i := 3) rfl 1
  have HSZ := Lib.hid (HSR3.out.set (i := 3) rfl (.slice A2 L1.length d2) (.slice A3 L2.length d3))
  obtain ⟨z0x, z0y⟩ := HSZ.out.cell (i := 0) rfl
  obtain ⟨z1x, z1y⟩ := HSZ.out.cell (i := 1) rfl
  obtain ⟨z2x, z2y⟩ := HSZ.out.cell (i := 2) rfl
  simp only [Nat.add_zero] at z0x z0y
  have HS4 : Hid ((fun u : World => u.cell? ⟨w.heap.size, 0, none⟩ = some (.slice An g.ns.length cn) ∧ u.cell? ⟨w.heap.size, 1, none⟩ = some (.slice Ae g.es.length ce) ∧ u.cell? ⟨w.heap.size + 1, 0, none⟩ = some (.slice Pn p.ns.length pn) ∧ u.cell? ⟨w.heap.size + 1, 1, none⟩ = some (.slice Pe p.es.length pe) ∧ u.cell? ⟨w.heap.size + 2, 0, none⟩ = some (.slice Qn q.ns.length qn) ∧ u.cell? ⟨w.heap.size + 2, 1, none⟩ = some (.slice Qe q.es.length qe)) _) := Lib.hid ⟨z0x, z0y, z1x, z1y, z2x, z2y⟩
  clear z0x z0y z1x z1y z2x z2y
  refine wpAnyH_ready (rs := [11]) (by kernel_rfl) (by simp) ?_
  refine AllReadyH.cons (oper_at (r := _) rfl) (fun K hK => ?_) AllReadyH.nil
  go_simp
  refine hK.out _ _ (HS4.out) (fun _ => ?_)
  clear hK K
  try simp only [Act.put, List.setIfInBounds_toArray, List.set_cons_zero, List.set_cons_succ]
  refine wpAnyH_take (i := 12) (v := ?_) (oper_at (r := _) rfl) (by kernel_rfl) (by kernel_rfl) (by kernel_rfl) (fun _ _ _ h => h) (Or.inl ⟨by rfl, ?_⟩) (by assumption) ?_
  rotate_left
  · intro w hSw; try dsimp only at hSw
    go_simp
    try with_reducible rfl
  try simp only [Act.put, List.setIfInBounds_toArray, List.set_cons_zero, List.set_cons_succ]
  refine wpAnyH_done (by kernel_rfl) ?_ _
  refine NoPanic.normal ?_
  go_wp2_with fail
  obtain ⟨r0, r1⟩ := HSZ.out.cell (i := 3) rfl
  have hlt := HWS.out
  have hle := HLE.out
  refine bodyPost_ret (v := .tuple #[.agg #[.slice A2 L1.length d2, .slice A3 L2.length d3], .int .i64 0]) (by simp [results, Tryd.results19, go_sem, r0, r1]) rfl ?_
  have s1 : OwnI ((x3.setCell ⟨w.heap.size + 3, 0, none⟩ (.slice A2 L1.length d2)).setCell ⟨w.heap.size + 3, 1, none⟩ (.slice A3 L2.length d3)) _ _ _ := ownsRow_setCell_below (ownsRow_setCell_below HOO.out (by show w.heap.size + 3 < wd.heap.size; exact hlt) _) (by show w.heap.size + 3 < wd.heap.size; exact hlt) _
  have s2 : OwnI ((x3.setCell ⟨w.heap.size + 3, 0, none⟩ (.slice A2 L1.length d2)).setCell ⟨w.heap.size + 3, 1, none⟩ (.slice A3 L2.length d3)) _ _ _ := ownsRow_setCell_below (ownsRow_setCell_below HO3.out (by show w.heap.size + 3 < x2.heap.size; exact Nat.lt_of_lt_of_le hlt hle) _) (by show w.heap.size + 3 < x2.heap.size; exact Nat.lt_of_lt_of_le hlt hle) _
  exact ⟨⟨.agg #[.slice A2 L1.length d2, .slice A3 L2.length d3], by rw [HEE.out]; rfl, by rw [HR.out]; exact isM_of (g := ⟨L1, L2⟩) (isI_own s1) (isI_own s2)⟩, HSZ.out.1⟩
theorem joinG_any : TwoC 19 joinP := fun g p q An cn Ae ce Pn pn Pe pe Qn qn Qe qe w hg hp hq => joinG_at g p q An cn Ae ce Pn pn Pe pe Qn qn Qe qe w hg hp hq

set_option maxRecDepth 100000 in
set_option maxHeartbeats 4000000 in
theorem meetG_at (g : Gr) (p : Mo) (q : Mo) (An : Option Addr) (cn : Nat) (Ae : Option Addr) (ce : Nat) (Pn : Option Addr) (pn : Nat) (Pe : Option Addr) (pe : Nat) (Qn : Option Addr) (qn : Nat) (Qe : Option Addr) (qe : Nat) (w : World) (hg : GrAt w An cn Ae ce g) (hp : PtAt w Pn Pe p) (hq : PtAt w Qn Qe q) :
    GivesM 22 #[gval An g.ns.length cn Ae g.es.length ce, gval Pn p.ns.length pn Pe p.es.length pe, gval Qn q.ns.length qn Qe q.es.length qe] (twoE g p q) (meetP g p q) w := by
  have hS0 : SR w _ ((((w.alloc (.cells #[.slice An g.ns.length cn, .slice Ae g.es.length ce] 25)).alloc (.cells #[.slice Pn p.ns.length pn, .slice Pe p.es.length pe] 27)).alloc (.cells #[.slice Qn q.ns.length qn, .slice Qe q.es.length qe] 27)).alloc (.cells #[.slice none 0 0, .slice none 0 0] 27)) := SR.push (SR.push (SR.push (SR.push (SR.nil w) rfl _ _ _) (by simp) _ _ _) (by simp) _ _ _) (by simp) _ _ _
  have HS0 := Lib.hid hS0
  have HB7 := Lib.hid (fun (u : World) (hu : Below w.heap.size w u) => bothG_any g p q An cn Ae ce Pn pn Pe pe Qn qn Qe qe u (hg.up hu) (hp.up hu) (hq.up hu))
  have HC1 := Lib.hid (fun (u : World) (hu : Below w.heap.size w u) => fun (h : (∀ y ∈ p.ns, 0 ≤ y) ∧ Asc q.ns) => intersectG_any p.ns q.ns Pn Qn pn qn u hp.ln hq.ln h.1 (Reads.up hp.ns hu) (Reads.up hq.ns hu) h.2)
  have HC2 := Lib.hid (fun (u : World) (hu : Below w.heap.size w u) => fun (h : (∀ y ∈ p.es, 0 ≤ y) ∧ Asc q.es) => intersectG_any p.es q.es Pe Qe pe qe u hp.le hq.le h.1 (Reads.up hp.es hu) (Reads.up hq.es hu) h.2)
  have HZ : Hid (twoE g p q = 0 → ((∀ y ∈ p.ns, 0 ≤ y) ∧ Asc q.ns) ∧ ((∀ y ∈ p.es, 0 ≤ y) ∧ Asc q.es)) := Lib.hid fun h => by
    obtain ⟨hv, h1, h2⟩ := two_zero.1 h
    exact ⟨⟨fun y hy => (h1.rn y hy).1, h2.an⟩, ⟨fun y hy => (h1.re y hy).1, h2.ae⟩⟩
  have HIM : Hid (twoE g p q = 0 → andP g p q = ⟨andF p.ns q.ns p.ns.length, andF p.es q.es p.es.length⟩) := Lib.hid fun h => by
    obtain ⟨hv, h1, h2⟩ := two_zero.1 h
    rw [andF_and h1.an h1.rn, andF_and h1.ae h1.re]; rfl
  have HI : Hid (meetP g p q = if twoE g p q = 0 then andP g p q else noM) := Lib.hid rfl
  clear hS0 hg hp hq
  generalize meetP g p q = R at *
  generalize twoE g p q = E at *
  refine givesM ?_
  go_enter Tryd.func22, Tryd.ntmps22
  obtain ⟨c0x, c0y⟩ := HS0.out.cell (i := 0) rfl
  obtain ⟨c1x, c1y⟩ := HS0.out.cell (i := 1) rfl
  obtain ⟨c2x, c2y⟩ := HS0.out.cell (i := 2) rfl
  obtain ⟨c3x, c3y⟩ := HS0.out.cell (i := 3) rfl
  simp only [Nat.add_zero] at c0x c0y
  have fr0 := HS0.out.free (i := 3) rfl 0
  have fr1 := HS0.out.free (i := 3) rfl 1
  go_wp2_with fail
  refine (HB7.out _ HS0.out.1).mono ?_
  rintro e w1 ⟨rfl, hb⟩
  have HS1 := Lib.hid (HS0.out.up hb)
  clear hb HS0 HB7 c0x c0y c1x c1y c2x c2y c3x c3y fr0 fr1
  obtain ⟨c0x, c0y⟩ := HS1.out.cell (i := 0) rfl
  obtain ⟨c1x, c1y⟩ := HS1.out.cell (i := 1) rfl
  obtain ⟨c2x, c2y⟩ := HS1.out.cell (i := 2) rfl
  obtain ⟨c3x, c3y⟩ := HS1.out.cell (i := 3) rfl
  simp only [Nat.add_zero] at c0x c0y
  have fr0 := HS1.out.free (i := 3) rfl 0
  have fr1 := HS1.out.free (i := 3) rfl 1
  by_cases h1 : E = 0
  case neg =>
    have HEE : Hid (E = E) := Lib.hid rfl
    have HR := Lib.hid (show R = noM by rw [HI.out, if_neg (by rw [HEE.out]; exact h1)])
    have t1 : ((E : Int) != 0) = true := by simp; omega
    clear h1
    go_wp2_with fail
    have hS2 := HS1.out.set (i := 3) rfl (.slice none 0 0) (.slice none 0 0)
    obtain ⟨r0, r1⟩ := hS2.cell (i := 3) rfl
    refine bodyPost_ret (v := .tuple #[gval none 0 0 none 0 0, .int .i64 ((E : Nat))]) (by simp [results, Tryd.results22, go_sem, r0, r1]) rfl ?_
    exact ⟨⟨_, rfl, by rw [HR.out]; exact isM_nil _⟩, hS2.1⟩
  have HEE := Lib.hid (show E = 0 from h1)
  have HR := Lib.hid (show R = ⟨andF p.ns q.ns p.ns.length, andF p.es q.es p.es.length⟩ by rw [HI.out, if_pos HEE.out]; exact HIM.out HEE.out)
  have t1 : ((E : Int) != 0) = false := by simp; omega
  obtain ⟨l1, l2⟩ := HZ.out HEE.out
  replace HC1 := Lib.hid (fun u hu => HC1.out u hu l1)
  replace HC2 := Lib.hid (fun u hu => HC2.out u hu l2)
  clear l1 l2 HZ HIM
  generalize andF p.ns q.ns p.ns.length = L1 at *
  generalize andF p.es q.es p.es.length = L2 at *
  clear h1 HI
  go_wp2_with fail
  have HSd : Hid (SR w _ w1.drew) := Lib.hid (HS1.out.up (below_d _))
  have HSA : Hid ((fun u : World => u.cell? ⟨w.heap.size, 0, none⟩ = some (.slice An g.ns.length cn) ∧ u.cell? ⟨w.heap.size, 1, none⟩ = some (.slice Ae g.es.length ce) ∧ u.cell? ⟨w.heap.size + 1, 0, none⟩ = some (.slice Pn p.ns.length pn) ∧ u.cell? ⟨w.heap.size + 1, 1, none⟩ = some (.slice Pe p.es.length pe) ∧ u.cell? ⟨w.heap.size + 2, 0, none⟩ = some (.slice Qn q.ns.length qn) ∧ u.cell? ⟨w.heap.size + 2, 1, none⟩ = some (.slice Qe q.es.length qe)) w1.drew) := Lib.hid ⟨c0x, c0y, c1x, c1y, c2x, c2y⟩
  have HUP : Hid (∀ u u', (fun u : World => u.cell? ⟨w.heap.size, 0, none⟩ = some (.slice An g.ns.length cn) ∧ u.cell? ⟨w.heap.size, 1, none⟩ = some (.slice Ae g.es.length ce) ∧ u.cell? ⟨w.heap.size + 1, 0, none⟩ = some (.slice Pn p.ns.length pn) ∧ u.cell? ⟨w.heap.size + 1, 1, none⟩ = some (.slice Pe p.es.length pe) ∧ u.cell? ⟨w.heap.size + 2, 0, none⟩ = some (.slice Qn q.ns.length qn) ∧ u.cell? ⟨w.heap.size + 2, 1, none⟩ = some (.slice Qe q.es.length qe)) u → Below u.heap.size u u' → (fun u : World => u.cell? ⟨w.heap.size, 0, none⟩ = some (.slice An g.ns.length cn) ∧ u.cell? ⟨w.heap.size, 1, none⟩ = some (.slice Ae g.es.length ce) ∧ u.cell? ⟨w.heap.size + 1, 0, none⟩ = some (.slice Pn p.ns.length pn) ∧ u.cell? ⟨w.heap.size + 1, 1, none⟩ = some (.slice Pe p.es.length pe) ∧ u.cell? ⟨w.heap.size + 2, 0, none⟩ = some (.slice Qn q.ns.length qn) ∧ u.cell? ⟨w.heap.size + 2, 1, none⟩ = some (.slice Qe q.es.length qe)) u') := Lib.hid fun u u' h hb => ⟨cell_up hb h.1, cell_up hb h.2.1, cell_up hb h.2.2.1, cell_up hb h.2.2.2.1, cell_up hb h.2.2.2.2.1, cell_up hb h.2.2.2.2.2⟩
  have HWS : Hid (w.heap.size + 3 < w1.drew.heap.size) := Lib.hid (heap_lt (HS1.out.2 3 _ rfl))
  have HWL : Hid (w.heap.size ≤ w1.drew.heap.size) := Lib.hid HS1.out.1.size
  clear t1 c0x c0y c1x c1y c2x c2y c3x c3y fr0 fr1 HS1
  refine wp_region_noPanic ?_
  refine wp_region_held_drew (S := (fun u : World => u.cell? ⟨w.heap.size, 0, none⟩ = some (.slice An g.ns.length cn) ∧ u.cell? ⟨w.heap.size, 1, none⟩ = some (.slice Ae g.es.length ce) ∧ u.cell? ⟨w.heap.size + 1, 0, none⟩ = some (.slice Pn p.ns.length pn) ∧ u.cell? ⟨w.heap.size + 1, 1, none⟩ = some (.slice Pe p.es.length pe) ∧ u.cell? ⟨w.heap.size + 2, 0, none⟩ = some (.slice Qn q.ns.length qn) ∧ u.cell? ⟨w.heap.size + 2, 1, none⟩ = some (.slice Qe q.es.length qe))) (by kernel_rfl) (HSA.out) (fun hHeld => ?_)
  generalize w1.drew = wd at *
  refine wpAnyH_take (i := 0) (v := ?_) (oper_at (r := _) rfl) (by kernel_rfl) (by kernel_rfl) (by kernel_rfl) (fun _ _ _ h => h) (Or.inl ⟨by rfl, ?_⟩) (by assumption) ?_
  rotate_left
  · intro w hSw; try dsimp only at hSw
    go_simp
    try with_reducible rfl
  try simp only [Act.put, List.setIfInBounds_toArray, List.set_cons_zero, List.set_cons_succ]
  refine wpAnyH_take (i := 1) (v := ?_) (oper_at (r := _) rfl) (by kernel_rfl) (by kernel_rfl) (by kernel_rfl) (fun _ _ _ h => h) (Or.inl ⟨by rfl, ?_⟩) (by assumption) ?_
  rotate_left
  · intro w hSw; try dsimp only at hSw
    go_simp
    try with_reducible rfl
  try simp only [Act.put, List.setIfInBounds_toArray, List.set_cons_zero, List.set_cons_succ]
  refine wpAnyH_take (i := 2) (v := ?_) (oper_at (r := _) rfl) (by kernel_rfl) (by kernel_rfl) (by kernel_rfl) (fun _ _ _ h => h) (Or.inl ⟨by rfl, ?_⟩) (by assumption) ?_
  rotate_left
  · intro w hSw; try dsimp only at hSw
    go_simp
    try with_reducible rfl
  try simp only [Act.put, List.setIfInBounds_toArray, List.set_cons_zero, List.set_cons_succ]
  refine wpAnyH_take (i := 3) (v := ?_) (oper_at (r := _) rfl) (by kernel_rfl) (by kernel_rfl) (by kernel_rfl) (fun _ _ _ h => h) (Or.inl ⟨by rfl, ?_⟩) (by assumption) ?_
  rotate_left
  · intro w hSw; try dsimp only at hSw
    go_simp
    try with_reducible rfl
  try simp only [Act.put, List.setIfInBounds_toArray, List.set_cons_zero, List.set_cons_succ]
  refine wpAnyH_take (i := 5) (v := ?_) (oper_at (r := _) rfl) (by kernel_rfl) (by kernel_rfl) (by kernel_rfl) (fun _ _ _ h => h) (Or.inl ⟨by rfl, ?_⟩) (by assumption) ?_
  rotate_left
  · intro w hSw; try dsimp only at hSw
    go_simp
    try with_reducible rfl
  try simp only [Act.put, List.setIfInBounds_toArray, List.set_cons_zero, List.set_cons_succ]
  refine wpAnyH_take (i := 6) (v := ?_) (oper_at (r := _) rfl) (by kernel_rfl) (by kernel_rfl) (by kernel_rfl) (fun _ _ _ h => h) (Or.inl ⟨by rfl, ?_⟩) (by assumption) ?_
  rotate_left
  · intro w hSw; try dsimp only at hSw
    go_simp
    try with_reducible rfl
  try simp only [Act.put, List.setIfInBounds_toArray, List.set_cons_zero, List.set_cons_succ]
  refine wpAnyH_take (i := 7) (v := ?_) (oper_at (r := _) rfl) (by kernel_rfl) (by kernel_rfl) (by kernel_rfl) (fun _ _ _ h => h) (Or.inl ⟨by rfl, ?_⟩) (by assumption) ?_
  rotate_left
  · intro w hSw; try dsimp only at hSw
    go_simp
    try with_reducible rfl
  try simp only [Act.put, List.setIfInBounds_toArray, List.set_cons_zero, List.set_cons_succ]
  refine wpAnyH_take (i := 8) (v := ?_) (oper_at (r := _) rfl) (by kernel_rfl) (by kernel_rfl) (by kernel_rfl) (fun _ _ _ h => h) (Or.inl ⟨by rfl, ?_⟩) (by assumption) ?_
  rotate_left
  · intro w hSw; try dsimp only at hSw
    go_simp
    try with_reducible rfl
  try simp only [Act.put, List.setIfInBounds_toArray, List.set_cons_zero, List.set_cons_succ]
  refine wpAnyH_ready (rs := [4]) (by kernel_rfl) (by simp) ?_
  refine AllReadyH.cons (oper_at (r := _) rfl) (fun K hK => ?_) AllReadyH.nil
  go_simp
  refine (HC1.out _ HSd.out.1).mono ?_
  rintro e x2 ⟨v2, rfl, ho2, hb2⟩
  have HT2 := Lib.hid (HUP.out _ _ HSA.out hb2)
  have HLE := Lib.hid hb2.size
  have HSR2 := Lib.hid (HSd.out.up hb2)
  have HO2 := Lib.hid ho2
  obtain ⟨A2, d2, rfl⟩ := OwnE.slice ho2
  clear ho2 hb2
  go_wp2_with fail
  refine hK.out _ _ (HT2.out) (fun _ => ?_)
  clear hK K
  try simp only [Act.put, List.setIfInBounds_toArray, List.set_cons_zero, List.set_cons_succ]
  refine wpAnyH_ready (rs := [9]) (by kernel_rfl) (by simp) ?_
  refine AllReadyH.cons (oper_at (r := _) rfl) (fun K hK => ?_) AllReadyH.nil
  go_simp
  refine (HC2.out _ HSR2.out.1).mono ?_
  rintro e x3 ⟨v3, rfl, ho3, hb3⟩
  have HT3 := Lib.hid (HUP.out _ _ HT2.out hb3)
  have HSR3 := Lib.hid (HSR2.out.up hb3)
  have HOO := Lib.hid (OwnE.below HO2.out hb3 (Nat.le_refl _))
  have HO3 := Lib.hid ho3
  obtain ⟨A3, d3, rfl⟩ := OwnE.slice ho3
  clear ho3 hb3 HO2
  go_wp2_with fail
  refine hK.out _ _ (HT3.out) (fun _ => ?_)
  clear hK K
  try simp only [Act.put, List.setIfInBounds_toArray, List.set_cons_zero, List.set_cons_succ]
  refine wpAnyH_take (i := 10) (v := ?_) (oper_at (r := _) rfl) (by kernel_rfl) (by kernel_rfl) (by kernel_rfl) (fun _ _ _ h => h) (Or.inl ⟨by rfl, ?_⟩) (by assumption) ?_
  rotate_left
  · intro w hSw; try dsimp only at hSw
    go_simp
    try with_reducible rfl
  try simp only [Act.put, List.setIfInBounds_toArray, List.set_cons_zero, List.set_cons_succ]
  obtain ⟨c3x, c3y⟩ := HSR3.out.cell (i := 3) rfl
  have fr0 := HSR3.out.free (i := 3) rfl 0
  have fr1 := HSR3.out.free (i := 3) rfl 1
  have HSZ := Lib.hid (HSR3.out.set (i := 3) rfl (.slice A2 L1.length d2) (.slice A3 L2.length d3))
  obtain ⟨z0x, z0y⟩ := HSZ.out.cell (i := 0) rfl
  obtain ⟨z1x, z1y⟩ := HSZ.out.cell (i := 1) rfl
  obtain ⟨z2x, z2y⟩ := HSZ.out.cell (i := 2) rfl
  simp only [Nat.add_zero] at z0x z0y
  have HS4 : Hid ((fun u : World => u.cell? ⟨w.heap.size, 0, none⟩ = some (.slice An g.ns.length cn) ∧ u.cell? ⟨w.heap.size, 1, none⟩ = some (.slice Ae g.es.length ce) ∧ u.cell? ⟨w.heap.size + 1, 0, none⟩ = some (.slice Pn p.ns.length pn) ∧ u.cell? ⟨w.heap.size + 1, 1, none⟩ = some (.slice Pe p.es.length pe) ∧ u.cell? ⟨w.heap.size + 2, 0, none⟩ = some (.slice Qn q.ns.length qn) ∧ u.cell? ⟨w.heap.size + 2, 1, none⟩ = some (.slice Qe q.es.length qe)) _) := Lib.hid ⟨z0x, z0y, z1x, z1y, z2x, z2y⟩
  clear z0x z0y z1x z1y z2x z2y
  refine wpAnyH_ready (rs := [11]) (by kernel_rfl) (by simp) ?_
  refine AllReadyH.cons (oper_at (r := _) rfl) (fun K hK => ?_) AllReadyH.nil
  go_simp
  refine hK.out _ _ (HS4.out) (fun _ => ?_)
  clear hK K
  try simp only [Act.put, List.setIfInBounds_toArray, List.set_cons_zero, List.set_cons_succ]
  refine wpAnyH_take (i := 12) (v := ?_) (oper_at (r := _) rfl) (by kernel_rfl) (by kernel_rfl) (by kernel_rfl) (fun _ _ _ h => h) (Or.inl ⟨by rfl, ?_⟩) (by assumption) ?_
  rotate_left
  · intro w hSw; try dsimp only at hSw
    go_simp
    try with_reducible rfl
  try simp only [Act.put, List.setIfInBounds_toArray, List.set_cons_zero, List.set_cons_succ]
  refine wpAnyH_done (by kernel_rfl) ?_ _
  refine NoPanic.normal ?_
  go_wp2_with fail
  obtain ⟨r0, r1⟩ := HSZ.out.cell (i := 3) rfl
  have hlt := HWS.out
  have hle := HLE.out
  refine bodyPost_ret (v := .tuple #[.agg #[.slice A2 L1.length d2, .slice A3 L2.length d3], .int .i64 0]) (by simp [results, Tryd.results22, go_sem, r0, r1]) rfl ?_
  have s1 : OwnI ((x3.setCell ⟨w.heap.size + 3, 0, none⟩ (.slice A2 L1.length d2)).setCell ⟨w.heap.size + 3, 1, none⟩ (.slice A3 L2.length d3)) _ _ _ := ownsRow_setCell_below (ownsRow_setCell_below HOO.out (by show w.heap.size + 3 < wd.heap.size; exact hlt) _) (by show w.heap.size + 3 < wd.heap.size; exact hlt) _
  have s2 : OwnI ((x3.setCell ⟨w.heap.size + 3, 0, none⟩ (.slice A2 L1.length d2)).setCell ⟨w.heap.size + 3, 1, none⟩ (.slice A3 L2.length d3)) _ _ _ := ownsRow_setCell_below (ownsRow_setCell_below HO3.out (by show w.heap.size + 3 < x2.heap.size; exact Nat.lt_of_lt_of_le hlt hle) _) (by show w.heap.size + 3 < x2.heap.size; exact Nat.lt_of_lt_of_le hlt hle) _
  exact ⟨⟨.agg #[.slice A2 L1.length d2, .slice A3 L2.length d3], by rw [HEE.out]; rfl, by rw [HR.out]; exact isM_of (g := ⟨L1, L2⟩) (isI_own s1) (isI_own s2)⟩, HSZ.out.1⟩
theorem meetG_any : TwoC 22 meetP := fun g p q An cn Ae ce Pn pn Pe pe Qn qn Qe qe w hg hp hq => meetG_at g p q An cn Ae ce Pn pn Pe pe Qn qn Qe qe w hg hp hq

set_option maxRecDepth 100000 in
set_option maxHeartbeats 4000000 in
theorem imageG_at (a : Gr) (b : Gr) (m : Mo) (An : Option Addr) (cn : Nat) (Ae : Option Addr) (ce : Nat) (Bn : Option Addr) (dn : Nat) (Be : Option Addr) (de : Nat) (Mn : Option Addr) (mn : Nat) (Me : Option Addr) (me : Nat) (w : World) (ha : GrAt w An cn Ae ce a) (hb : GrAt w Bn dn Be de b) (hm : PtAt w Mn Me m) :
    GivesM 26 #[gval An a.ns.length cn Ae a.es.length ce, gval Bn b.ns.length dn Be b.es.length de, gval Mn m.ns.length mn Me m.es.length me] (morE a b m) (imR a b m) w := by
  have hS0 : SR w _ ((((w.alloc (.cells #[.slice An a.ns.length cn, .slice Ae a.es.length ce] 25)).alloc (.cells #[.slice Bn b.ns.length dn, .slice Be b.es.length de] 25)).alloc (.cells #[.slice Mn m.ns.length mn, .slice Me m.es.length me] 42)).alloc (.cells #[.slice none 0 0, .slice none 0 0] 27)) := SR.push (SR.push (SR.push (SR.push (SR.nil w) rfl _ _ _) (by simp) _ _ _) (by simp) _ _ _) (by simp) _ _ _
  have HS0 := Lib.hid hS0
  have HB7 := Lib.hid (fun (u : World) (hu : Below w.heap.size w u) => validM_any a b m An cn Ae ce Bn dn Be de Mn mn Me me u (ha.up hu) (hb.up hu) (Reads.up hm.ns hu) (Reads.up hm.es hu) hm.ln hm.le)
  have HC1 := Lib.hid (fun (u : World) (hu : Below w.heap.size w u) => distinctD_any m.ns Mn mn u hm.ln (Reads.up hm.ns hu))
  have HC2 := Lib.hid (fun (u : World) (hu : Below w.heap.size w u) => distinctD_any m.es Me me u hm.le (Reads.up hm.es hu))
  have HIM : Hid (morE a b m = 0 → imgP b m = ⟨dis m.ns, dis m.es⟩) := Lib.hid fun h => by
    have hk := mor_zero.1 h
    have r1 : ∀ x ∈ m.ns, 0 ≤ x ∧ x < b.ns.length := hk.rn
    have r2 : ∀ x ∈ m.es, 0 ≤ x ∧ x < b.es.length := hk.re
    rw [dis_img r1, dis_img r2]; rfl
  have HI : Hid (imR a b m = if morE a b m = 0 then imgP b m else noM) := Lib.hid rfl
  clear hS0 ha hb hm
  generalize imR a b m = R at *
  generalize morE a b m = E at *
  refine givesM ?_
  go_enter Tryd.func26, Tryd.ntmps26
  obtain ⟨c0x, c0y⟩ := HS0.out.cell (i := 0) rfl
  obtain ⟨c1x, c1y⟩ := HS0.out.cell (i := 1) rfl
  obtain ⟨c2x, c2y⟩ := HS0.out.cell (i := 2) rfl
  obtain ⟨c3x, c3y⟩ := HS0.out.cell (i := 3) rfl
  simp only [Nat.add_zero] at c0x c0y
  have fr0 := HS0.out.free (i := 3) rfl 0
  have fr1 := HS0.out.free (i := 3) rfl 1
  go_wp2_with fail
  refine (HB7.out _ HS0.out.1).mono ?_
  rintro e w1 ⟨rfl, hb⟩
  have HS1 := Lib.hid (HS0.out.up hb)
  clear hb HS0 HB7 c0x c0y c1x c1y c2x c2y c3x c3y fr0 fr1
  obtain ⟨c0x, c0y⟩ := HS1.out.cell (i := 0) rfl
  obtain ⟨c1x, c1y⟩ := HS1.out.cell (i := 1) rfl
  obtain ⟨c2x, c2y⟩ := HS1.out.cell (i := 2) rfl
  obtain ⟨c3x, c3y⟩ := HS1.out.cell (i := 3) rfl
  simp only [Nat.add_zero] at c0x c0y
  have fr0 := HS1.out.free (i := 3) rfl 0
  have fr1 := HS1.out.free (i := 3) rfl 1
  by_cases h1 : E = 0
  case neg =>
    have HEE : Hid (E = E) := Lib.hid rfl
    have HR := Lib.hid (show R = noM by rw [HI.out, if_neg (by rw [HEE.out]; exact h1)])
    have t1 : ((E : Int) != 0) = true := by simp; omega
    clear h1
    go_wp2_with fail
    have hS2 := HS1.out.set (i := 3) rfl (.slice none 0 0) (.slice none 0 0)
    obtain ⟨r0, r1⟩ := hS2.cell (i := 3) rfl
    refine bodyPost_ret (v := .tuple #[gval none 0 0 none 0 0, .int .i64 ((E : Nat))]) (by simp [results, Tryd.results26, go_sem, r0, r1]) rfl ?_
    exact ⟨⟨_, rfl, by rw [HR.out]; exact isM_nil _⟩, hS2.1⟩
  have HEE := Lib.hid (show E = 0 from h1)
  have HR := Lib.hid (show R = ⟨dis m.ns, dis m.es⟩ by rw [HI.out, if_pos HEE.out]; exact HIM.out HEE.out)
  have t1 : ((E : Int) != 0) = false := by simp; omega
  clear HIM
  generalize dis m.ns = L1 at *
  generalize dis m.es = L2 at *
  clear h1 HI
  go_wp2_with fail
  have HSd : Hid (SR w _ w1.drew) := Lib.hid (HS1.out.up (below_d _))
  have HSA : Hid ((fun u : World => u.cell? ⟨w.heap.size, 0, none⟩ = some (.slice An a.ns.length cn) ∧ u.cell? ⟨w.heap.size, 1, none⟩ = some (.slice Ae a.es.length ce) ∧ u.cell? ⟨w.heap.size + 1, 0, none⟩ = some (.slice Bn b.ns.length dn) ∧ u.cell? ⟨w.heap.size + 1, 1, none⟩ = some (.slice Be b.es.length de) ∧ u.cell? ⟨w.heap.size + 2, 0, none⟩ = some (.slice Mn m.ns.length mn) ∧ u.cell? ⟨w.heap.size + 2, 1, none⟩ = some (.slice Me m.es.length me)) w1.drew) := Lib.hid ⟨c0x, c0y, c1x, c1y, c2x, c2y⟩
  have HUP : Hid (∀ u u', (fun u : World => u.cell? ⟨w.heap.size, 0, none⟩ = some (.slice An a.ns.length cn) ∧ u.cell? ⟨w.heap.size, 1, none⟩ = some (.slice Ae a.es.length ce) ∧ u.cell? ⟨w.heap.size + 1, 0, none⟩ = some (.slice Bn b.ns.length dn) ∧ u.cell? ⟨w.heap.size + 1, 1, none⟩ = some (.slice Be b.es.length de) ∧ u.cell? ⟨w.heap.size + 2, 0, none⟩ = some (.slice Mn m.ns.length mn) ∧ u.cell? ⟨w.heap.size + 2, 1, none⟩ = some (.slice Me m.es.length me)) u → Below u.heap.size u u' → (fun u : World => u.cell? ⟨w.heap.size, 0, none⟩ = some (.slice An a.ns.length cn) ∧ u.cell? ⟨w.heap.size, 1, none⟩ = some (.slice Ae a.es.length ce) ∧ u.cell? ⟨w.heap.size + 1, 0, none⟩ = some (.slice Bn b.ns.length dn) ∧ u.cell? ⟨w.heap.size + 1, 1, none⟩ = some (.slice Be b.es.length de) ∧ u.cell? ⟨w.heap.size + 2, 0, none⟩ = some (.slice Mn m.ns.length mn) ∧ u.cell? ⟨w.heap.size + 2, 1, none⟩ = some (.slice Me m.es.length me)) u') := Lib.hid fun u u' h hb => ⟨cell_up hb h.1, cell_up hb h.2.1, cell_up hb h.2.2.1, cell_up hb h.2.2.2.1, cell_up hb h.2.2.2.2.1, cell_up hb h.2.2.2.2.2⟩
  have HWS : Hid (w.heap.size + 3 < w1.drew.heap.size) := Lib.hid (heap_lt (HS1.out.2 3 _ rfl))
  have HWL : Hid (w.heap.size ≤ w1.drew.heap.size) := Lib.hid HS1.out.1.size
  clear t1 c0x c0y c1x c1y c2x c2y c3x c3y fr0 fr1 HS1
  refine wp_region_noPanic ?_
  refine wp_region_held_drew (S := (fun u : World => u.cell? ⟨w.heap.size, 0, none⟩ = some (.slice An a.ns.length cn) ∧ u.cell? ⟨w.heap.size, 1, none⟩ = some (.slice Ae a.es.length ce) ∧ u.cell? ⟨w.heap.size + 1, 0, none⟩ = some (.slice Bn b.ns.length dn) ∧ u.cell? ⟨w.heap.size + 1, 1, none⟩ = some (.slice Be b.es.length de) ∧ u.cell? ⟨w.heap.size + 2, 0, none⟩ = some (.slice Mn m.ns.length mn) ∧ u.cell? ⟨w.heap.size + 2, 1, none⟩ = some (.slice Me m.es.length me))) (by kernel_rfl) (HSA.out) (fun hHeld => ?_)
  generalize w1.drew = wd at *
  refine wpAnyH_take (i := 0) (v := ?_) (oper_at (r := _) rfl) (by kernel_rfl) (by kernel_rfl) (by kernel_rfl) (fun _ _ _ h => h) (Or.inl ⟨by rfl, ?_⟩) (by assumption) ?_
  rotate_left
  · intro w hSw; try dsimp only at hSw
    go_simp
    try with_reducible rfl
  try simp only [Act.put, List.setIfInBounds_toArray, List.set_cons_zero, List.set_cons_succ]
  refine wpAnyH_take (i := 1) (v := ?_) (oper_at (r := _) rfl) (by kernel_rfl) (by kernel_rfl) (by kernel_rfl) (fun _ _ _ h => h) (Or.inl ⟨by rfl, ?_⟩) (by assumption) ?_
  rotate_left
  · intro w hSw; try dsimp only at hSw
    go_simp
    try with_reducible rfl
  try simp only [Act.put, List.setIfInBounds_toArray, List.set_cons_zero, List.set_cons_succ]
  refine wpAnyH_take (i := 3) (v := ?_) (oper_at (r := _) rfl) (by kernel_rfl) (by kernel_rfl) (by kernel_rfl) (fun _ _ _ h => h) (Or.inl ⟨by rfl, ?_⟩) (by assumption) ?_
  rotate_left
  · intro w hSw; try dsimp only at hSw
    go_simp
    try with_reducible rfl
  try simp only [Act.put, List.setIfInBounds_toArray, List.set_cons_zero, List.set_cons_succ]
  refine wpAnyH_take (i := 4) (v := ?_) (oper_at (r := _) rfl) (by kernel_rfl) (by kernel_rfl) (by kernel_rfl) (fun _ _ _ h => h) (Or.inl ⟨by rfl, ?_⟩) (by assumption) ?_
  rotate_left
  · intro w hSw; try dsimp only at hSw
    go_simp
    try with_reducible rfl
  try simp only [Act.put, List.setIfInBounds_toArray, List.set_cons_zero, List.set_cons_succ]
  refine wpAnyH_ready (rs := [2]) (by kernel_rfl) (by simp) ?_
  refine AllReadyH.cons (oper_at (r := _) rfl) (fun K hK => ?_) AllReadyH.nil
  go_simp
  refine (HC1.out _ HSd.out.1).mono ?_
  rintro e x2 ⟨v2, rfl, ho2, hb2⟩
  have HT2 := Lib.hid (HUP.out _ _ HSA.out hb2)
  have HLE := Lib.hid hb2.size
  have HSR2 := Lib.hid (HSd.out.up hb2)
  have HO2 := Lib.hid ho2
  obtain ⟨A2, d2, rfl⟩ := OwnE.slice ho2
  clear ho2 hb2
  go_wp2_with fail
  refine hK.out _ _ (HT2.out) (fun _ => ?_)
  clear hK K
  try simp only [Act.put, List.setIfInBounds_toArray, List.set_cons_zero, List.set_cons_succ]
  refine wpAnyH_ready (rs := [5]) (by kernel_rfl) (by simp) ?_
  refine AllReadyH.cons (oper_at (r := _) rfl) (fun K hK => ?_) AllReadyH.nil
  go_simp
  refine (HC2.out _ HSR2.out.1).mono ?_
  rintro e x3 ⟨v3, rfl, ho3, hb3⟩
  have HT3 := Lib.hid (HUP.out _ _ HT2.out hb3)
  have HSR3 := Lib.hid (HSR2.out.up hb3)
  have HOO := Lib.hid (OwnE.below HO2.out hb3 (Nat.le_refl _))
  have HO3 := Lib.hid ho3
  obtain ⟨A3, d3, rfl⟩ := OwnE.slice ho3
  clear ho3 hb3 HO2
  go_wp2_with fail
  refine hK.out _ _ (HT3.out) (fun _ => ?_)
  clear hK K
  try simp only [Act.put, List.setIfInBounds_toArray, List.set_cons_zero, List.set_cons_succ]
  refine wpAnyH_take (i := 6) (v := ?_) (oper_at (r := _) rfl) (by kernel_rfl) (by kernel_rfl) (by kernel_rfl) (fun _ _ _ h => h) (Or.inl ⟨by rfl, ?_⟩) (by assumption) ?_
  rotate_left
  · intro w hSw; try dsimp only at hSw
    go_simp
    try with_reducible rfl
  try simp only [Act.put, List.setIfInBounds_toArray, List.set_cons_zero, List.set_cons_succ]
  obtain ⟨c3x, c3y⟩ := HSR3.out.cell (i := 3) rfl
  have fr0 := HSR3.out.free (i := 3) rfl 0
  have fr1 := HSR3.out.free (i := 3) rfl 1
  have HSZ := Lib.hid (HSR3.out.set (i := 3) rfl (.slice A2 L1.length d2) (.slice A3 L2.length d3))
  obtain ⟨z0x, z0y⟩ := HSZ.out.cell (i := 0) rfl
  obtain ⟨z1x, z1y⟩ := HSZ.out.cell (i := 1) rfl
  obtain ⟨z2x, z2y⟩ := HSZ.out.cell (i := 2) rfl
  simp only [Nat.add_zero] at z0x z0y
  have HS4 : Hid ((fun u : World => u.cell? ⟨w.heap.size, 0, none⟩ = some (.slice An a.ns.length cn) ∧ u.cell? ⟨w.heap.size, 1, none⟩ = some (.slice Ae a.es.length ce) ∧ u.cell? ⟨w.heap.size + 1, 0, none⟩ = some (.slice Bn b.ns.length dn) ∧ u.cell? ⟨w.heap.size + 1, 1, none⟩ = some (.slice Be b.es.length de) ∧ u.cell? ⟨w.heap.size + 2, 0, none⟩ = some (.slice Mn m.ns.length mn) ∧ u.cell? ⟨w.heap.size + 2, 1, none⟩ = some (.slice Me m.es.length me)) _) := Lib.hid ⟨z0x, z0y, z1x, z1y, z2x, z2y⟩
  clear z0x z0y z1x z1y z2x z2y
  refine wpAnyH_ready (rs := [7]) (by kernel_rfl) (by simp) ?_
  refine AllReadyH.cons (oper_at (r := _) rfl) (fun K hK => ?_) AllReadyH.nil
  go_simp
  refine hK.out _ _ (HS4.out) (fun _ => ?_)
  clear hK K
  try simp only [Act.put, List.setIfInBounds_toArray, List.set_cons_zero, List.set_cons_succ]
  refine wpAnyH_take (i := 8) (v := ?_) (oper_at (r := _) rfl) (by kernel_rfl) (by kernel_rfl) (by kernel_rfl) (fun _ _ _ h => h) (Or.inl ⟨by rfl, ?_⟩) (by assumption) ?_
  rotate_left
  · intro w hSw; try dsimp only at hSw
    go_simp
    try with_reducible rfl
  try simp only [Act.put, List.setIfInBounds_toArray, List.set_cons_zero, List.set_cons_succ]
  refine wpAnyH_done (by kernel_rfl) ?_ _
  refine NoPanic.normal ?_
  go_wp2_with fail
  obtain ⟨r0, r1⟩ := HSZ.out.cell (i := 3) rfl
  have hlt := HWS.out
  have hle := HLE.out
  refine bodyPost_ret (v := .tuple #[.agg #[.slice A2 L1.length d2, .slice A3 L2.length d3], .int .i64 0]) (by simp [results, Tryd.results26, go_sem, r0, r1]) rfl ?_
  have s1 : OwnI ((x3.setCell ⟨w.heap.size + 3, 0, none⟩ (.slice A2 L1.length d2)).setCell ⟨w.heap.size + 3, 1, none⟩ (.slice A3 L2.length d3)) _ _ _ := ownsRow_setCell_below (ownsRow_setCell_below HOO.out (by show w.heap.size + 3 < wd.heap.size; exact hlt) _) (by show w.heap.size + 3 < wd.heap.size; exact hlt) _
  have s2 : OwnI ((x3.setCell ⟨w.heap.size + 3, 0, none⟩ (.slice A2 L1.length d2)).setCell ⟨w.heap.size + 3, 1, none⟩ (.slice A3 L2.length d3)) _ _ _ := ownsRow_setCell_below (ownsRow_setCell_below HO3.out (by show w.heap.size + 3 < x2.heap.size; exact Nat.lt_of_lt_of_le hlt hle) _) (by show w.heap.size + 3 < x2.heap.size; exact Nat.lt_of_lt_of_le hlt hle) _
  exact ⟨⟨.agg #[.slice A2 L1.length d2, .slice A3 L2.length d3], by rw [HEE.out]; rfl, by rw [HR.out]; exact isM_of (g := ⟨L1, L2⟩) (isI_own s1) (isI_own s2)⟩, HSZ.out.1⟩
theorem imageG_any : ImgC 26 := fun a b m An cn Ae ce Bn dn Be de Mn mn Me me w ha hb hm => imageG_at a b m An cn Ae ce Bn dn Be de Mn mn Me me w ha hb hm

theorem pre_part (a b : Gr) (m p : Mo) : preE a b m p = if morE a b m ≠ 0 then morE a b m else partE b p := by
  unfold preE
  by_cases h : morE a b m = 0
  · rw [if_neg (fun hn => hn h), if_neg (fun hn => hn h)]
    unfold partE
    rw [if_neg (fun hn => hn (mor_zero.1 h).vb)]
  · rw [if_pos h, if_pos h]

set_option maxRecDepth 100000 in
set_option maxHeartbeats 4000000 in
theorem preimageG_at (a : Gr) (b : Gr) (m : Mo) (p : Mo) (An : Option Addr) (cn : Nat) (Ae : Option Addr) (ce : Nat) (Bn : Option Addr) (dn : Nat) (Be : Option Addr) (de : Nat) (Mn : Option Addr) (mn : Nat) (Me : Option Addr) (me : Nat) (Pn : Option Addr) (pn : Nat) (Pe : Option Addr) (pe : Nat) (w : World) (ha : GrAt w An cn Ae ce a) (hb : GrAt w Bn dn Be de b) (hm : PtAt w Mn Me m) (hp : PtAt w Pn Pe p) :
    GivesM 28 #[gval An a.ns.length cn Ae a.es.length ce, gval Bn b.ns.length dn Be b.es.length de, gval Mn m.ns.length mn Me m.es.length me, gval Pn p.ns.length pn Pe p.es.length pe] (preE a b m p) (preR a b m p) w := by
  have hS0 : SR w _ (((((w.alloc (.cells #[.slice An a.ns.length cn, .slice Ae a.es.length ce] 25)).alloc (.cells #[.slice Bn b.ns.length dn, .slice Be b.es.length de] 25)).alloc (.cells #[.slice Mn m.ns.length mn, .slice Me m.es.length me] 42)).alloc (.cells #[.slice Pn p.ns.length pn, .slice Pe p.es.length pe] 27)).alloc (.cells #[.slice none 0 0, .slice none 0 0] 27)) := SR.push (SR.push (SR.push (SR.push (SR.push (SR.nil w) rfl _ _ _) (by simp) _ _ _) (by simp) _ _ _) (by simp) _ _ _) (by simp) _ _ _
  have HS0 := Lib.hid hS0
  have HB7 := Lib.hid (fun (u : World) (hu : Below w.heap.size w u) => validM_any a b m An cn Ae ce Bn dn Be de Mn mn Me me u (ha.up hu) (hb.up hu) (Reads.up hm.ns hu) (Reads.up hm.es hu) hm.ln hm.le)
  have HB8 := Lib.hid (fun (u : World) (hu : Below w.heap.size w u) => validG_any b p Bn dn Be de Pn pn Pe pe u (hb.up hu) (hp.up hu))
  have HC1 := Lib.hid (fun (u : World) (hu : Below w.heap.size w u) => fun (h : Asc p.ns ∧ ∀ y ∈ m.ns, 0 ≤ y) => mappedG_any p.ns m.ns Pn Mn pn mn u hp.ln hm.ln h.2 (Reads.up hp.ns hu) (Reads.up hm.ns hu) h.1)
  have HC2 := Lib.hid (fun (u : World) (hu : Below w.heap.size w u) => fun (h : Asc p.es ∧ ∀ y ∈ m.es, 0 ≤ y) => mappedG_any p.es m.es Pe Me pe me u hp.le hm.le h.2 (Reads.up hp.es hu) (Reads.up hm.es hu) h.1)
  have HZ : Hid (preE a b m p = 0 → (Asc p.ns ∧ ∀ y ∈ m.ns, 0 ≤ y) ∧ (Asc p.es ∧ ∀ y ∈ m.es, 0 ≤ y)) := Lib.hid fun h => by
    rw [pre_part] at h
    split at h
    · omega
    · rename_i h0
      have hk := mor_zero.1 (by omega : morE a b m = 0)
      obtain ⟨_, h1⟩ := part_zero.1 h
      exact ⟨⟨h1.an, fun y hy => (hk.rn y hy).1⟩, ⟨h1.ae, fun y hy => (hk.re y hy).1⟩⟩
  have HE : Hid (preE a b m p = if morE a b m ≠ 0 then morE a b m else partE b p) := Lib.hid (pre_part a b m p)
  have HI : Hid (preR a b m p = if preE a b m p = 0 then preP m p else noM) := Lib.hid rfl
  clear hS0 ha hb hm hp
  generalize preR a b m p = R at *
  generalize preE a b m p = E at *
  generalize morE a b m = e1 at *
  generalize partE b p = e2 at *
  refine givesM ?_
  go_enter Tryd.func28, Tryd.ntmps28
  obtain ⟨c0x, c0y⟩ := HS0.out.cell (i := 0) rfl
  obtain ⟨c1x, c1y⟩ := HS0.out.cell (i := 1) rfl
  obtain ⟨c2x, c2y⟩ := HS0.out.cell (i := 2) rfl
  obtain ⟨c3x, c3y⟩ := HS0.out.cell (i := 3) rfl
  obtain ⟨c4x, c4y⟩ := HS0.out.cell (i := 4) rfl
  simp only [Nat.add_zero] at c0x c0y
  have fr0 := HS0.out.free (i := 4) rfl 0
  have fr1 := HS0.out.free (i := 4) rfl 1
  go_wp2_with fail
  refine (HB7.out _ HS0.out.1).mono ?_
  rintro e w1 ⟨rfl, hb⟩
  have HS1 := Lib.hid (HS0.out.up hb)
  clear hb HS0 HB7 c0x c0y c1x c1y c2x c2y c3x c3y c4x c4y fr0 fr1
  obtain ⟨c0x, c0y⟩ := HS1.out.cell (i := 0) rfl
  obtain ⟨c1x, c1y⟩ := HS1.out.cell (i := 1) rfl
  obtain ⟨c2x, c2y⟩ := HS1.out.cell (i := 2) rfl
  obtain ⟨c3x, c3y⟩ := HS1.out.cell (i := 3) rfl
  obtain ⟨c4x, c4y⟩ := HS1.out.cell (i := 4) rfl
  simp only [Nat.add_zero] at c0x c0y
  have fr0 := HS1.out.free (i := 4) rfl 0
  have fr1 := HS1.out.free (i := 4) rfl 1
  by_cases h1 : e1 = 0
  case neg =>
    have HEE := Lib.hid (show E = e1 by rw [HE.out, if_pos h1])
    have HR := Lib.hid (show R = noM by rw [HI.out, if_neg (by rw [HEE.out]; exact h1)])
    have t1 : ((e1 : Int) != 0) = true := by simp; omega
    clear h1
    go_wp2_with fail
    have hS2 := HS1.out.set (i := 4) rfl (.slice none 0 0) (.slice none 0 0)
    obtain ⟨r0, r1⟩ := hS2.cell (i := 4) rfl
    refine bodyPost_ret (v := .tuple #[gval none 0 0 none 0 0, .int .i64 ((e1 : Nat))]) (by simp [results, Tryd.results28, go_sem, r0, r1]) rfl ?_
    exact ⟨⟨_, by rw [HEE.out], by rw [HR.out]; exact isM_nil _⟩, hS2.1⟩
  have HE1 := Lib.hid h1
  have t1 : ((e1 : Int) != 0) = false := by simp; omega
  obtain ⟨HE2⟩ : Nonempty (Hid (E = e2)) := ⟨Lib.hid (by rw [HE.out, if_neg (by omega)])⟩
  clear HE h1
  have HE := HE2
  go_wp2_with fail
  refine (HB8.out _ HS1.out.1).mono ?_
  rintro e w2 ⟨rfl, hb⟩
  have HS2 := Lib.hid (HS1.out.up hb)
  clear hb HS1 HB8 c0x c0y c1x c1y c2x c2y c3x c3y c4x c4y fr0 fr1 t1
  obtain ⟨c0x, c0y⟩ := HS2.out.cell (i := 0) rfl
  obtain ⟨c1x, c1y⟩ := HS2.out.cell (i := 1) rfl
  obtain ⟨c2x, c2y⟩ := HS2.out.cell (i := 2) rfl
  obtain ⟨c3x, c3y⟩ := HS2.out.cell (i := 3) rfl
  obtain ⟨c4x, c4y⟩ := HS2.out.cell (i := 4) rfl
  simp only [Nat.add_zero] at c0x c0y
  have fr0 := HS2.out.free (i := 4) rfl 0
  have fr1 := HS2.out.free (i := 4) rfl 1
  by_cases h1 : e2 = 0
  case neg =>
    have HEE := Lib.hid (show E = e2 by rw [HE.out])
    have HR := Lib.hid (show R = noM by rw [HI.out, if_neg (by rw [HEE.out]; exact h1)])
    have t1 : ((e2 : Int) != 0) = true := by simp; omega
    clear h1
    go_wp2_with fail
    have hS2 := HS2.out.set (i := 4) rfl (.slice none 0 0) (.slice none 0 0)
    obtain ⟨r0, r1⟩ := hS2.cell (i := 4) rfl
    refine bodyPost_ret (v := .tuple #[gval none 0 0 none 0 0, .int .i64 ((e2 : Nat))]) (by simp [results, Tryd.results28, go_sem, r0, r1]) rfl ?_
    exact ⟨⟨_, by rw [HEE.out], by rw [HR.out]; exact isM_nil _⟩, hS2.1⟩
  have HEE := Lib.hid (show E = 0 by rw [HE.out]; exact h1)
  have HR := Lib.hid (show R = ⟨intoL m.ns p.ns, intoL m.es p.es⟩ by rw [HI.out, if_pos HEE.out]; rfl)
  have t1 : ((e2 : Int) != 0) = false := by simp; omega
  obtain ⟨l1, l2⟩ := HZ.out HEE.out
  replace HC1 := Lib.hid (fun u hu => HC1.out u hu l1)
  replace HC2 := Lib.hid (fun u hu => HC2.out u hu l2)
  clear l1 l2 HZ
  generalize intoL m.ns p.ns = L1 at *
  generalize intoL m.es p.es = L2 at *
  clear h1 HI HE
  go_wp2_with fail
  have HSd : Hid (SR w _ w2.drew) := Lib.hid (HS2.out.up (below_d _))
  have HSA : Hid ((fun u : World => u.cell? ⟨w.heap.size, 0, none⟩ = some (.slice An a.ns.length cn) ∧ u.cell? ⟨w.heap.size, 1, none⟩ = some (.slice Ae a.es.length ce) ∧ u.cell? ⟨w.heap.size + 1, 0, none⟩ = some (.slice Bn b.ns.length dn) ∧ u.cell? ⟨w.heap.size + 1, 1, none⟩ = some (.slice Be b.es.length de) ∧ u.cell? ⟨w.heap.size + 2, 0, none⟩ = some (.slice Mn m.ns.length mn) ∧ u.cell? ⟨w.heap.size + 2, 1, none⟩ = some (.slice Me m.es.length me) ∧ u.cell? ⟨w.heap.size + 3, 0, none⟩ = some (.slice Pn p.ns.length pn) ∧ u.cell? ⟨w.heap.size + 3, 1, none⟩ = some (.slice Pe p.es.length pe)) w2.drew) := Lib.hid ⟨c0x, c0y, c1x, c1y, c2x, c2y, c3x, c3y⟩
  have HUP : Hid (∀ u u', (fun u : World => u.cell? ⟨w.heap.size, 0, none⟩ = some (.slice An a.ns.length cn) ∧ u.cell? ⟨w.heap.size, 1, none⟩ = some (.slice Ae a.es.length ce) ∧ u.cell? ⟨w.heap.size + 1, 0, none⟩ = some (.slice Bn b.ns.length dn) ∧ u.cell? ⟨w.heap.size + 1, 1, none⟩ = some (.slice Be b.es.length de) ∧ u.cell? ⟨w.heap.size + 2, 0, none⟩ = some (.slice Mn m.ns.length mn) ∧ u.cell? ⟨w.heap.size + 2, 1, none⟩ = some (.slice Me m.es.length me) ∧ u.cell? ⟨w.heap.size + 3, 0, none⟩ = some (.slice Pn p.ns.length pn) ∧ u.cell? ⟨w.heap.size + 3, 1, none⟩ = some (.slice Pe p.es.length pe)) u → Below u.heap.size u u' → (fun u : World => u.cell? ⟨w.heap.size, 0, none⟩ = some (.slice An a.ns.length cn) ∧ u.cell? ⟨w.heap.size, 1, none⟩ = some (.slice Ae a.es.length ce) ∧ u.cell? ⟨w.heap.size + 1, 0, none⟩ = some (.slice Bn b.ns.length dn) ∧ u.cell? ⟨w.heap.size + 1, 1, none⟩ = some (.slice Be b.es.length de) ∧ u.cell? ⟨w.heap.size + 2, 0, none⟩ = some (.slice Mn m.ns.length mn) ∧ u.cell? ⟨w.heap.size + 2, 1, none⟩ = some (.slice Me m.es.length me) ∧ u.cell? ⟨w.heap.size + 3, 0, none⟩ = some (.slice Pn p.ns.length pn) ∧ u.cell? ⟨w.heap.size + 3, 1, none⟩ = some (.slice Pe p.es.length pe)) u') := Lib.hid fun u u' h hb => ⟨cell_up hb h.1, cell_up hb h.2.1, cell_up hb h.2.2.1, cell_up hb h.2.2.2.1, cell_up hb h.2.2.2.2.1, cell_up hb h.2.2.2.2.2.1, cell_up hb h.2.2.2.2.2.2.1, cell_up hb h.2.2.2.2.2.2.2⟩
  have HWS : Hid (w.heap.size + 4 < w2.drew.heap.size) := Lib.hid (heap_lt (HS2.out.2 4 _ rfl))
  have HWL : Hid (w.heap.size ≤ w2.drew.heap.size) := Lib.hid HS2.out.1.size
  clear t1 c0x c0y c1x c1y c2x c2y c3x c3y c4x c4y fr0 fr1 HS2
  refine wp_region_noPanic ?_
  refine wp_region_held_drew (S := (fun u : World => u.cell? ⟨w.heap.size, 0, none⟩ = some (.slice An a.ns.length cn) ∧ u.cell? ⟨w.heap.size, 1, none⟩ = some (.slice Ae a.es.length ce) ∧ u.cell? ⟨w.heap.size + 1, 0, none⟩ = some (.slice Bn b.ns.length dn) ∧ u.cell? ⟨w.heap.size + 1, 1, none⟩ = some (.slice Be b.es.length de) ∧ u.cell? ⟨w.heap.size + 2, 0, none⟩ = some (.slice Mn m.ns.length mn) ∧ u.cell? ⟨w.heap.size + 2, 1, none⟩ = some (.slice Me m.es.length me) ∧ u.cell? ⟨w.heap.size + 3, 0, none⟩ = some (.slice Pn p.ns.length pn) ∧ u.cell? ⟨w.heap.size + 3, 1, none⟩ = some (.slice Pe p.es.length pe))) (by kernel_rfl) (HSA.out) (fun hHeld => ?_)
  generalize w2.drew = wd at *
  refine wpAnyH_take (i := 0) (v := ?_) (oper_at (r := _) rfl) (by kernel_rfl) (by kernel_rfl) (by kernel_rfl) (fun _ _ _ h => h) (Or.inl ⟨by rfl, ?_⟩) (by assumption) ?_
  rotate_left
  · intro w hSw; try dsimp only at hSw
    go_simp
    try with_reducible rfl
  try simp only [Act.put, List.setIfInBounds_toArray, List.set_cons_zero, List.set_cons_succ]
  refine wpAnyH_take (i := 1) (v := ?_) (oper_at (r := _) rfl) (by kernel_rfl) (by kernel_rfl) (by kernel_rfl) (fun _ _ _ h => h) (Or.inl ⟨by rfl, ?_⟩) (by assumption) ?_
  rotate_left
  · intro w hSw; try dsimp only at hSw
    go_simp
    try with_reducible rfl
  try simp only [Act.put, List.setIfInBounds_toArray, List.set_cons_zero, List.set_cons_succ]
  refine wpAnyH_take (i := 2) (v := ?_) (oper_at (r := _) rfl) (by kernel_rfl) (by kernel_rfl) (by kernel_rfl) (fun _ _ _ h => h) (Or.inl ⟨by rfl, ?_⟩) (by assumption) ?_
  rotate_left
  · intro w hSw; try dsimp only at hSw
    go_simp
    try with_reducible rfl
  try simp only [Act.put, List.setIfInBounds_toArray, List.set_cons_zero, List.set_cons_succ]
  refine wpAnyH_take (i := 3) (v := ?_) (oper_at (r := _) rfl) (by kernel_rfl) (by kernel_rfl) (by kernel_rfl) (fun _ _ _ h => h) (Or.inl ⟨by rfl, ?_⟩) (by assumption) ?_
  rotate_left
  · intro w hSw; try dsimp only at hSw
    go_simp
    try with_reducible rfl
  try simp only [Act.put, List.setIfInBounds_toArray, List.set_cons_zero, List.set_cons_succ]
  refine wpAnyH_take (i := 5) (v := ?_) (oper_at (r := _) rfl) (by kernel_rfl) (by kernel_rfl) (by kernel_rfl) (fun _ _ _ h => h) (Or.inl ⟨by rfl, ?_⟩) (by assumption) ?_
  rotate_left
  · intro w hSw; try dsimp only at hSw
    go_simp
    try with_reducible rfl
  try simp only [Act.put, List.setIfInBounds_toArray, List.set_cons_zero, List.set_cons_succ]
  refine wpAnyH_take (i := 6) (v := ?_) (oper_at (r := _) rfl) (by kernel_rfl) (by kernel_rfl) (by kernel_rfl) (fun _ _ _ h => h) (Or.inl ⟨by rfl, ?_⟩) (by assumption) ?_
  rotate_left
  · intro w hSw; try dsimp only at hSw
    go_simp
    try with_reducible rfl
  try simp only [Act.put, List.setIfInBounds_toArray, List.set_cons_zero, List.set_cons_succ]
  refine wpAnyH_take (i := 7) (v := ?_) (oper_at (r := _) rfl) (by kernel_rfl) (by kernel_rfl) (by kernel_rfl) (fun _ _ _ h => h) (Or.inl ⟨by rfl, ?_⟩) (by assumption) ?_
  rotate_left
  · intro w hSw; try dsimp only at hSw
    go_simp
    try with_reducible rfl
  try simp only [Act.put, List.setIfInBounds_toArray, List.set_cons_zero, List.set_cons_succ]
  refine wpAnyH_take (i := 8) (v := ?_) (oper_at (r := _) rfl) (by kernel_rfl) (by kernel_rfl) (by kernel_rfl) (fun _ _ _ h => h) (Or.inl ⟨by rfl, ?_⟩) (by assumption) ?_
  rotate_left
  · intro w hSw; try dsimp only at hSw
    go_simp
    try with_reducible rfl
  try simp only [Act.put, List.setIfInBounds_toArray, List.set_cons_zero, List.set_cons_succ]
  refine wpAnyH_ready (rs := [4]) (by kernel_rfl) (by simp) ?_
  refine AllReadyH.cons (oper_at (r := _) rfl) (fun K hK => ?_) AllReadyH.nil
  go_simp
  refine (HC1.out _ HSd.out.1).mono ?_
  rintro e x2 ⟨v2, rfl, ho2, hb2⟩
  have HT2 := Lib.hid (HUP.out _ _ HSA.out hb2)
  have HLE := Lib.hid hb2.size
  have HSR2 := Lib.hid (HSd.out.up hb2)
  have HO2 := Lib.hid ho2
  obtain ⟨A2, d2, rfl⟩ := OwnE.slice ho2
  clear ho2 hb2
  go_wp2_with fail
  refine hK.out _ _ (HT2.out) (fun _ => ?_)
  clear hK K
  try simp only [Act.put, List.setIfInBounds_toArray, List.set_cons_zero, List.set_cons_succ]
  refine wpAnyH_ready (rs := [9]) (by kernel_rfl) (by simp) ?_
  refine AllReadyH.cons (oper_at (r := _) rfl) (fun K hK => ?_) AllReadyH.nil
  go_simp
  refine (HC2.out _ HSR2.out.1).mono ?_
  rintro e x3 ⟨v3, rfl, ho3, hb3⟩
  have HT3 := Lib.hid (HUP.out _ _ HT2.out hb3)
  have HSR3 := Lib.hid (HSR2.out.up hb3)
  have HOO := Lib.hid (OwnE.below HO2.out hb3 (Nat.le_refl _))
  have HO3 := Lib.hid ho3
  obtain ⟨A3, d3, rfl⟩ := OwnE.slice ho3
  clear ho3 hb3 HO2
  go_wp2_with fail
  refine hK.out _ _ (HT3.out) (fun _ => ?_)
  clear hK K
  try simp only [Act.put, List.setIfInBounds_toArray, List.set_cons_zero, List.set_cons_succ]
  refine wpAnyH_take (i := 10) (v := ?_) (oper_at (r := _) rfl) (by kernel_rfl) (by kernel_rfl) (by kernel_rfl) (fun _ _ _ h => h) (Or.inl ⟨by rfl, ?_⟩) (by assumption) ?_
  rotate_left
  · intro w hSw; try dsimp only at hSw
    go_simp
    try with_reducible rfl
  try simp only [Act.put, List.setIfInBounds_toArray, List.set_cons_zero, List.set_cons_succ]
  obtain ⟨c4x, c4y⟩ := HSR3.out.cell (i := 4) rfl
  have fr0 := HSR3.out.free (i := 4) rfl 0
  have fr1 := HSR3.out.free (i := 4) rfl 1
  have HSZ := Lib.hid (HSR3.out.set (i := 4) rfl (.slice A2 L1.length d2) (.slice A3 L2.length d3))
  obtain ⟨z0x, z0y⟩ := HSZ.out.cell (i := 0) rfl
  obtain ⟨z1x, z1y⟩ := HSZ.out.cell (i := 1) rfl
  obtain ⟨z2x, z2y⟩ := HSZ.out.cell (i := 2) rfl
  obtain ⟨z3x, z3y⟩ := HSZ.out.cell (i := 3) rfl
  simp only [Nat.add_zero] at z0x z0y
  have HS4 : Hid ((fun u : World => u.cell? ⟨w.heap.size, 0, none⟩ = some (.slice An a.ns.length cn) ∧ u.cell? ⟨w.heap.size, 1, none⟩ = some (.slice Ae a.es.length ce) ∧ u.cell? ⟨w.heap.size + 1, 0, none⟩ = some (.slice Bn b.ns.length dn) ∧ u.cell? ⟨w.heap.size + 1, 1, none⟩ = some (.slice Be b.es.length de) ∧ u.cell? ⟨w.heap.size + 2, 0, none⟩ = some (.slice Mn m.ns.length mn) ∧ u.cell? ⟨w.heap.size + 2, 1, none⟩ = some (.slice Me m.es.length me) ∧ u.cell? ⟨w.heap.size + 3, 0, none⟩ = some (.slice Pn p.ns.length pn) ∧ u.cell? ⟨w.heap.size + 3, 1, none⟩ = some (.slice Pe p.es.length pe)) _) := Lib.hid ⟨z0x, z0y, z1x, z1y, z2x, z2y, z3x, z3y⟩
  clear z0x z0y z1x z1y z2x z2y z3x z3y
  refine wpAnyH_ready (rs := [11]) (by kernel_rfl) (by simp) ?_
  refine AllReadyH.cons (oper_at (r := _) rfl) (fun K hK => ?_) AllReadyH.nil
  go_simp
  refine hK.out _ _ (HS4.out) (fun _ => ?_)
  clear hK K
  try simp only [Act.put, List.setIfInBounds_toArray, List.set_cons_zero, List.set_cons_succ]
  refine wpAnyH_take (i := 12) (v := ?_) (oper_at (r := _) rfl) (by kernel_rfl) (by kernel_rfl) (by kernel_rfl) (fun _ _ _ h => h) (Or.inl ⟨by rfl, ?_⟩) (by assumption) ?_
  rotate_left
  · intro w hSw; try dsimp only at hSw
    go_simp
    try with_reducible rfl
  try simp only [Act.put, List.setIfInBounds_toArray, List.set_cons_zero, List.set_cons_succ]
  refine wpAnyH_done (by kernel_rfl) ?_ _
  refine NoPanic.normal ?_
  go_wp2_with fail
  obtain ⟨r0, r1⟩ := HSZ.out.cell (i := 4) rfl
  have hlt := HWS.out
  have hle := HLE.out
  refine bodyPost_ret (v := .tuple #[.agg #[.slice A2 L1.length d2, .slice A3 L2.length d3], .int .i64 0]) (by simp [results, Tryd.results28, go_sem, r0, r1]) rfl ?_
  have s1 : OwnI ((x3.setCell ⟨w.heap.size + 4, 0, none⟩ (.slice A2 L1.length d2)).setCell ⟨w.heap.size + 4, 1, none⟩ (.slice A3 L2.length d3)) _ _ _ := ownsRow_setCell_below (ownsRow_setCell_below HOO.out (by show w.heap.size + 4 < wd.heap.size; exact hlt) _) (by show w.heap.size + 4 < wd.heap.size; exact hlt) _
  have s2 : OwnI ((x3.setCell ⟨w.heap.size + 4, 0, none⟩ (.slice A2 L1.length d2)).setCell ⟨w.heap.size + 4, 1, none⟩ (.slice A3 L2.length d3)) _ _ _ := ownsRow_setCell_below (ownsRow_setCell_below HO3.out (by show w.heap.size + 4 < x2.heap.size; exact Nat.lt_of_lt_of_le hlt hle) _) (by show w.heap.size + 4 < x2.heap.size; exact Nat.lt_of_lt_of_le hlt hle) _
  exact ⟨⟨.agg #[.slice A2 L1.length d2, .slice A3 L2.length d3], by rw [HEE.out]; rfl, by rw [HR.out]; exact isM_of (g := ⟨L1, L2⟩) (isI_own s1) (isI_own s2)⟩, HSZ.out.1⟩
theorem preimageG_any : PreC 28 := fun a b m p An cn Ae ce Bn dn Be de Mn mn Me me Pn pn Pe pe w ha hb hm hp => preimageG_at a b m p An cn Ae ce Bn dn Be de Mn mn Me me Pn pn Pe pe w ha hb hm hp


end Go.Proofs.YthnhacncnhknnaaDoor

/-
  Parts of graphs, the program: checkElements, Close. Printed by mkg5.py.
-/
namespace Go.Proofs.YthnhacncnhknnaaDoor
open Go.RowKit Go.Shelf

theorem ends_succ (g : Gr) (xs : List Int) (k : Nat) : endsOf g xs (k + 1) = endsOf g xs k ++ [(g.es.getD (xs.getD k 0).toNat default).fr, (g.es.getD (xs.getD k 0).toNat default).tq] := rfl
theorem SR.low {w u u' : World} {L : List Bx} {B : Nat} (h : SR w L u) (hB : w.heap.size + L.length ≤ B) (hb : Below B u u') : SR w L u' := by
  refine ⟨h.1.trans (hb.mono (by omega)), fun i x hx => ?_⟩
  have hi : i < L.length := (List.getElem?_eq_some_iff.1 hx).1
  exact (hb.block (w.heap.size + i) (by omega)).trans (h.2 i x hx)
theorem two_cells {w : World} {a b : Int} : Ints (w.alloc (.cells #[.int .i64 a, .int .i64 b] 3)) (w.alloc (.cells #[.int .i64 a, .int .i64 b] 3)).heap.size (some ⟨w.heap.size, 0, none⟩) [a, b] := by
  have ho : OwnI (w.alloc (.cells #[.int .i64 a, .int .i64 b] 3)) 0 (.slice (some ⟨w.heap.size, 0, none⟩) 2 2) [a, b] := ⟨rfl, .inr ⟨w.heap.size, 2, _, rfl, Nat.zero_le _, heap_alloc_new _ _, Nat.le_refl _, by decide, rfl, rfl⟩⟩
  obtain ⟨X, x, e, h⟩ := OwnE.reads ho
  injection e with e e1 e2
  rw [e]; exact h

set_option maxRecDepth 100000 in
set_option maxHeartbeats 4000000 in
theorem checkElG_any (g : Gr) (vs xs : List Int) (An : Option Addr) (cn : Nat) (Ae : Option Addr) (ce : Nat) (A : Option Addr) (a : Nat) (B : Option Addr) (b : Nat) (w : World) (hg : GrAt w An cn Ae ce g) (hA : Ints w w.heap.size A vs) (hB : Ints w w.heap.size B xs) (la : vs.length ≤ 1000) (lb : xs.length ≤ 1000) :
    Calls Tryd.prog 47 #[gval An g.ns.length cn Ae g.es.length ce, .slice A vs.length a, .slice B xs.length b] w fun e w' => e = .returned (.int .i64 (closeE g vs xs : Nat)) ∧ Below w.heap.size w w' := by
  have hS0 : SR w [(.slice An g.ns.length cn, .slice Ae g.es.length ce, 25)] (w.alloc (.cells #[.slice An g.ns.length cn, .slice Ae g.es.length ce] 25)) := SR.push (SR.nil w) rfl _ _ _
  have HV := Lib.hid (fun (u : World) (hu : Below w.heap.size w u) => validP_any g An cn Ae ce u (hg.up hu))
  have HVX := Lib.hid (fun (u : World) (hu : Below w.heap.size w u) => Reads.below hA hu)
  have HXX := Lib.hid (fun (u : World) (hu : Below w.heap.size w u) => Reads.below hB hu)
  have HE1 : Hid (rngE vs g.ns.length = fstN (rngAt vs g.ns.length) 0 (vs.length - 0)) := Lib.hid rfl
  have HE2 : Hid (rngE xs g.es.length = fstN (rngAt xs g.es.length) 0 (xs.length - 0)) := Lib.hid rfl
  have HCE : Hid (closeE g vs xs = if validE g ≠ 0 then validE g else if rngE vs g.ns.length ≠ 0 then rngE vs g.ns.length else rngE xs g.es.length) := Lib.hid rfl
  have HS := Lib.hid hS0
  clear hS0 hg hA hB
  generalize closeE g vs xs = E at *
  generalize rngE vs g.ns.length = e1 at *
  generalize rngE xs g.es.length = e2 at *
  go_enter Tryd.func47, Tryd.ntmps47
  obtain ⟨c0, c1⟩ := HS.out.cell (i := 0) rfl
  simp only [Nat.add_zero] at c0 c1
  go_wp2_with fail
  refine (HV.out _ HS.out.1).mono ?_
  rintro e w1 ⟨rfl, hb1⟩
  have HS1 := Lib.hid (HS.out.up hb1)
  clear hb1 HS HV c0 c1
  by_cases h1 : validE g = 0
  case neg =>
    have HEE := Lib.hid (show E = validE g by rw [HCE.out, if_pos h1])
    have t1 : ((validE g : Int) != 0) = true := by simp; omega
    clear h1
    generalize validE g = z at *
    go_wp2_with fail
    go_ret
    exact ⟨ret_int (by rw [HEE.out]), HS1.out.1⟩
  have HCE2 := Lib.hid (show E = if e1 ≠ 0 then e1 else e2 by rw [HCE.out, if_neg (by omega)])
  have HEC19 : Hid (e1 = 6 → E = 6) := Lib.hid fun h => by rw [HCE2.out, h]; rfl
  have HEC2 : Hid (e1 = 0 → e2 = 6 → E = 6) := Lib.hid fun h0 h => by rw [HCE2.out, h0, h]; rfl
  have HC0 : Hid (e1 = 0 → e2 = 0 → E = 0) := Lib.hid fun h0 h => by rw [HCE2.out, h0, h]; rfl
  have t1 : ((validE g : Int) != 0) = false := by simp; omega
  clear h1 HCE HCE2
  generalize validE g = z at *
  go_wp2_with fail
  clear t1
  have HS := Lib.hid HS1.out
  clear HS1
  go_loopw [19] (fun x wr => ∃ k : Nat, k ≤ vs.length ∧ x = .int .i64 (k : Int) ∧ SR w [(.slice An g.ns.length cn, .slice Ae g.es.length ce, 25)] wr ∧ e1 = fstN (rngAt vs g.ns.length) k (vs.length - k)) (fun x _ => vs.length - (intOf x).toNat)
  case atStart => exact ⟨0, Nat.zero_le _, rfl, HS.out, HE1.out⟩
  case round =>
    clear HS HE1
    obtain ⟨k, hk, rfl, hsr, hrr⟩ := hrel
    have HS := Lib.hid hsr
    have HRR := Lib.hid hrr
    clear hsr hrr
    obtain ⟨c0, c1⟩ := HS.out.cell (i := 0) rfl
    simp only [Nat.add_zero] at c0 c1
    by_cases hlt : k < vs.length
    · obtain ⟨b1, off1, hAe, hb1, hc⟩ := Ints.cells (HVX.out _ HS.out.1) hlt
      have ck := hc k hlt
      subst hAe
      have i0 : (0 : Int) ≤ (k : Int) := by omega
      have i1 : (k : Int) < (vs.length : Int) := by omega
      have i2 : ((k : Int)).toNat = k := by omega
      have HLT := Lib.hid hlt
      have HM : Hid (vs.length - ((k : Int) + 1).toNat < vs.length - ((k : Int)).toNat) := Lib.hid (by omega)
      have HHK := Lib.hid (fun hf => fstN_hit (f := rngAt vs g.ns.length) hlt hf)
      have HPK := Lib.hid (fun hf => fstN_pass (f := rngAt vs g.ns.length) hlt hf)
      have HR6 := Lib.hid (fun h => rng_hit (l := vs) (n := g.ns.length) (k := k) h)
      have HR0 := Lib.hid (fun h => rng_pass (l := vs) (n := g.ns.length) (k := k) h)
      have HI := Lib.hid (isIndex_any (vs.getD k 0) g.ns.length wr)
      clear hc hlt
      generalize vs.getD k 0 = y at *
      generalize idxB y g.ns.length = z at *
      cases z
      case false =>
        have h6 := HR6.out rfl
        have HE := Lib.hid (show e1 = 6 by rw [HRR.out, HHK.out (by rw [h6]; omega), h6])
        have HEC := Lib.hid (HEC19.out HE.out)
        clear h6 HR6 HR0 HHK HPK
        go_wp2_with fail
        refine HI.out.mono ?_
        rintro e w9 ⟨rfl, rfl⟩
        go_wp2_with fail
        go_ret
        exact ⟨ret_int (by rw [HEC.out]; rfl), HS.out.1⟩
      case true =>
        have h0 := HR0.out rfl
        have HE := Lib.hid (show e1 = fstN (rngAt vs g.ns.length) (k + 1) (vs.length - (k + 1)) by rw [HRR.out, HPK.out h0])
        clear h0 HR6 HR0 HHK HPK
        go_wp2_with fail
        refine HI.out.mono ?_
        rintro e w9 ⟨rfl, rfl⟩
        go_wp2_with fail
        go_roundw
        case rel => exact ⟨k + 1, HLT.out, by go_num, HS.out, HE.out⟩
        case measure => exact HM.out
    · have e : k = vs.length := by omega
      subst e
      have HZE := Lib.hid (show e1 = 0 by rw [HRR.out, fstN_end (Nat.le_refl _)])
      clear HRR
      have HZV := Lib.hid HZE.out
      clear HZE
      have HEC32 := Lib.hid (fun h => HEC2.out HZV.out h)
      go_wp2_with fail
      clear c0 c1
      go_loopw [32] (fun x wr => ∃ k : Nat, k ≤ xs.length ∧ x = .int .i64 (k : Int) ∧ SR w [(.slice An g.ns.length cn, .slice Ae g.es.length ce, 25)] wr ∧ e2 = fstN (rngAt xs g.es.length) k (xs.length - k)) (fun x _ => xs.length - (intOf x).toNat)
      case atStart => exact ⟨0, Nat.zero_le _, rfl, HS.out, HE2.out⟩
      case round =>
        clear HS HE2
        obtain ⟨k, hk, rfl, hsr, hrr⟩ := hrel
        have HS := Lib.hid hsr
        have HRR := Lib.hid hrr
        clear hsr hrr
        obtain ⟨c0, c1⟩ := HS.out.cell (i := 0) rfl
        simp only [Nat.add_zero] at c0 c1
        by_cases hlt : k < xs.length
        · obtain ⟨b1, off1, hAe, hb1, hc⟩ := Ints.cells (HXX.out _ HS.out.1) hlt
          have ck := hc k hlt
          subst hAe
          have i0 : (0 : Int) ≤ (k : Int) := by omega
          have i1 : (k : Int) < (xs.length : Int) := by omega
          have i2 : ((k : Int)).toNat = k := by omega
          have HLT := Lib.hid hlt
          have HM : Hid (xs.length - ((k : Int) + 1).toNat < xs.length - ((k : Int)).toNat) := Lib.hid (by omega)
          have HHK := Lib.hid (fun hf => fstN_hit (f := rngAt xs g.es.length) hlt hf)
          have HPK := Lib.hid (fun hf => fstN_pass (f := rngAt xs g.es.length) hlt hf)
          have HR6 := Lib.hid (fun h => rng_hit (l := xs) (n := g.es.length) (k := k) h)
          have HR0 := Lib.hid (fun h => rng_pass (l := xs) (n := g.es.length) (k := k) h)
          have HI := Lib.hid (isIndex_any (xs.getD k 0) g.es.length wr)
          clear hc hlt
          generalize xs.getD k 0 = y at *
          generalize idxB y g.es.length = z at *
          cases z
          case false =>
            have h6 := HR6.out rfl
            have HE := Lib.hid (show e2 = 6 by rw [HRR.out, HHK.out (by rw [h6]; omega), h6])
            have HEC := Lib.hid (HEC32.out HE.out)
            clear h6 HR6 HR0 HHK HPK
            go_wp2_with fail
            refine HI.out.mono ?_
            rintro e w9 ⟨rfl, rfl⟩
            go_wp2_with fail
            go_ret
            exact ⟨ret_int (by rw [HEC.out]; rfl), HS.out.1⟩
          case true =>
            have h0 := HR0.out rfl
            have HE := Lib.hid (show e2 = fstN (rngAt xs g.es.length) (k + 1) (xs.length - (k + 1)) by rw [HRR.out, HPK.out h0])
            clear h0 HR6 HR0 HHK HPK
            go_wp2_with fail
            refine HI.out.mono ?_
            rintro e w9 ⟨rfl, rfl⟩
            go_wp2_with fail
            go_roundw
            case rel => exact ⟨k + 1, HLT.out, by go_num, HS.out, HE.out⟩
            case measure => exact HM.out
        · have e : k = xs.length := by omega
          subst e
          have HZE := Lib.hid (show e2 = 0 by rw [HRR.out, fstN_end (Nat.le_refl _)])
          clear HRR
          have HCE := Lib.hid (HC0.out HZV.out HZE.out)
          go_wp2_with fail
          go_ret
          exact ⟨ret_int (by rw [HCE.out]; rfl), HS.out.1⟩

set_option maxRecDepth 100000 in
set_option maxHeartbeats 4000000 in
theorem closeG_any : CloseC 12 := by
  intro g vs xs An cn Ae ce A a B b w hg hA hB la lb
  have hS0 : SR w [(.slice An g.ns.length cn, .slice Ae g.es.length ce, 25), (.slice none 0 0, .slice none 0 0, 27)] ((w.alloc (.cells #[.slice An g.ns.length cn, .slice Ae g.es.length ce] 25)).alloc (.cells #[.slice none 0 0, .slice none 0 0] 27)) := SR.push (SR.push (SR.nil w) rfl _ _ _) (by simp) _ _ _
  have HK := Lib.hid (fun (u : World) (hu : Below w.heap.size w u) => checkElG_any g vs xs An cn Ae ce A a B b u (hg.up hu) (Reads.up hA hu) (Reads.up hB hu) (by omega) (by omega))
  have HCL := Lib.hid (fun (u : World) (hu : Below w.heap.size w u) => cloneI_any vs A u.heap.size a u (by omega) (Reads.up hA hu))
  have HXX := Lib.hid (fun (u : World) (hu : Below w.heap.size w u) => Reads.below hB hu)
  have HXR := Lib.hid (fun (u : World) (hu : Below w.heap.size w u) => Reads.up hB hu)
  have HGE := Lib.hid (fun (u : World) (hu : Below w.heap.size w u) => Reads.below hg.es hu)
  have HZ : Hid (closeE g vs xs = 0 → ∀ x ∈ xs, 0 ≤ x ∧ x < g.es.length) := Lib.hid fun h => (close_zero.1 h).2.2
  have HI : Hid (closeP g vs xs = if closeE g vs xs = 0 then leastP g (inB vs) (inB xs) else noM) := Lib.hid rfl
  have HRX : Hid (closeE g vs xs = 0 → leastP g (inB vs) (inB xs) = ⟨dis (vs ++ endsOf g xs xs.length), dis xs⟩) := Lib.hid fun h => by
    obtain ⟨h1, h2, h3⟩ := close_zero.1 h
    exact (close_is h1 h2 h3).symm
  have HD2 := Lib.hid (fun (u : World) (hu : Below w.heap.size w u) => distinctG_any xs B b u (by omega) (Reads.up hB hu))
  have HEL := Lib.hid (fun k => ends_len g xs k)
  have HES := Lib.hid (fun k => ends_succ g xs k)
  have HE0 : Hid (vs = vs ++ endsOf g xs 0) := Lib.hid (List.append_nil vs).symm
  have HS0 := Lib.hid hS0
  have HLV := Lib.hid la
  have HLX := Lib.hid lb
  clear hS0 hg hA hB
  generalize closeP g vs xs = R at *
  generalize closeE g vs xs = E at *
  refine givesM ?_
  go_enter Tryd.func12, Tryd.ntmps12
  obtain ⟨c0, c1⟩ := HS0.out.cell (i := 0) rfl
  simp only [Nat.add_zero] at c0 c1
  go_wp2_with fail
  refine (HK.out _ HS0.out.1).mono ?_
  rintro e w1 ⟨rfl, hb1⟩
  have HS1 := Lib.hid (HS0.out.up hb1)
  clear hb1 HS0 HK c0 c1
  by_cases h1 : E = 0
  case neg =>
    have HR := Lib.hid (show R = noM by rw [HI.out, if_neg h1])
    have t1 : ((E : Int) != 0) = true := by simp; omega
    obtain ⟨c2, c3⟩ := HS1.out.cell (i := 1) rfl
    have fr0 := HS1.out.free (i := 1) rfl 0
    have fr1 := HS1.out.free (i := 1) rfl 1
    clear h1
    go_wp2_with fail
    have hS2 := HS1.out.set (i := 1) rfl (.slice none 0 0) (.slice none 0 0)
    obtain ⟨r0, r1⟩ := hS2.cell (i := 1) rfl
    refine bodyPost_ret (v := .tuple #[gval none 0 0 none 0 0, .int .i64 ((E : Nat))]) (by simp [results, Tryd.results12, go_sem, r0, r1]) rfl ?_
    exact ⟨⟨_, rfl, by rw [HR.out]; exact isM_nil _⟩, hS2.1⟩
  have HEE := Lib.hid h1
  have HR := Lib.hid (show R = ⟨dis (vs ++ endsOf g xs xs.length), dis xs⟩ by rw [HI.out, if_pos h1, HRX.out h1])
  have HZ2 := Lib.hid (HZ.out h1)
  have t1 : ((E : Int) != 0) = false := by simp; omega
  clear h1 HI HRX HZ
  go_wp2_with fail
  refine (HCL.out _ HS1.out.1).mono ?_
  rintro e w2 ⟨v2, rfl, ho2, hb2⟩
  have HS2 := Lib.hid (HS1.out.up hb2)
  have HB0 : Hid (w.heap.size + 2 ≤ w1.heap.size) := Lib.hid (heap_lt (HS1.out.2 1 _ rfl))
  have HO2 := Lib.hid (OwnE.cast HE0.out ho2)
  have HSZ2 := Lib.hid hb2.size
  generalize w1.heap.size = B0 at *
  obtain ⟨ao, cap, rfl⟩ := OwnE.slice ho2
  clear ho2 hb2 HS1 HCL t1 HE0
  go_wp2_with fail
  go_loopw [9, 24] (fun v x wr => ∃ k : Nat, k ≤ xs.length ∧ x = .int .i64 (k : Int) ∧ OwnI wr B0 v (vs ++ endsOf g xs k) ∧ SR w [(.slice An g.ns.length cn, .slice Ae g.es.length ce, 25), (.slice none 0 0, .slice none 0 0, 27)] wr ∧ B0 ≤ wr.heap.size) (fun _ x _ => xs.length - (intOf x).toNat)
  case atStart => exact ⟨0, Nat.zero_le _, rfl, HO2.out, HS2.out, HSZ2.out⟩
  case round =>
    clear HO2 HS2 HSZ2
    obtain ⟨k, hk, rfl, hown, hsr, hsz⟩ := hrel
    have HW := Lib.hid hown
    have HS := Lib.hid hsr
    have HSZ := Lib.hid hsz
    have hl9 : (vs ++ endsOf g xs k).length ≤ 1000 := by
      rw [List.length_append, HEL.out]
      have := HLV.out
      have := HLX.out
      omega
    have HL9 := Lib.hid hl9
    by_cases hlt : k < xs.length
    · obtain ⟨ao, cap, rfl⟩ := OwnE.slice hown
      clear hown hsr hsz hl9
      obtain ⟨b, off, hBe, hb, hc⟩ := Ints.cells (HXX.out _ HS.out.1) hlt
      have ck := hc k hlt
      have hx := HZ2.out _ (getD_mem (d := (0 : Int)) hlt)
      obtain ⟨q, hq⟩ : ∃ q : Nat, xs.getD k 0 = (q : Int) := ⟨(xs.getD k 0).toNat, by omega⟩
      have HESK := Lib.hid (HES.out k)
      rw [hq] at ck hx HESK
      rw [Int.toNat_natCast] at HESK
      have hqk : q < g.es.length := by omega
      obtain ⟨b2, off2, hAe, hb2, hd⟩ := Eds.cells (HGE.out _ HS.out.1) hqk
      obtain ⟨d0, d1, d2⟩ := hd q hqk
      obtain ⟨c0, c1⟩ := HS.out.cell (i := 0) rfl
      simp only [Nat.add_zero] at c0 c1
      subst hBe hAe
      have i0 : (0 : Int) ≤ (k : Int) := by omega
      have i1 : (k : Int) < (xs.length : Int) := by omega
      have i2 : ((k : Int)).toNat = k := by omega
      have j0 : (0 : Int) ≤ (q : Int) := by omega
      have j1 : (q : Int) < (g.es.length : Int) := by omega
      have j2 : ((q : Int)).toNat = q := by omega
      have HLT := Lib.hid hlt
      have HM : Hid (xs.length - ((k : Int) + 1).toNat < xs.length - ((k : Int)).toNat) := Lib.hid (by omega)
      generalize g.es.getD q default = y at *
      obtain ⟨ty, fr, tt⟩ := y
      dsimp only at d0 d1 d2 HESK
      have HAP : Hid ((vs ++ endsOf g xs k) ++ [fr, tt] = vs ++ endsOf g xs (k + 1)) := Lib.hid (by rw [HESK.out, List.append_assoc])
      generalize vs ++ endsOf g xs k = rows at *
      clear hc hd hx hq hlt hqk d0 HESK
      go_wp2_with fail
      have HMM : Hid (∀ u, Below w.heap.size wr.drew u → u.cell? ⟨w.heap.size, 1, none⟩ = some (.slice (some ⟨b2, off2, none⟩) g.es.length ce) → (fun u : World => u.cell? ⟨w.heap.size, 1, none⟩ = some (.slice (some ⟨b2, off2, none⟩) g.es.length ce) ∧ u.cell? ⟨b2, off2 + q * 3 + 1, none⟩ = some (.int .i64 fr) ∧ u.cell? ⟨b2, off2 + q * 3 + 2, none⟩ = some (.int .i64 tt)) u) := Lib.hid fun u hu hcell => ⟨hcell, (hu.cell (p := ⟨b2, off2 + q * 3 + 1, none⟩) hb2).trans d1, (hu.cell (p := ⟨b2, off2 + q * 3 + 2, none⟩) hb2).trans d2⟩
      have HSD := Lib.hid (HS.out.up (below_d wr))
      have HWD : Hid (OwnI wr.drew B0 (.slice ao rows.length cap) rows) := Lib.hid HW.out
      have HSZD : Hid (B0 ≤ wr.drew.heap.size) := Lib.hid HSZ.out
      clear c0 c1 ck d1 d2 HS HW HSZ
      refine wp_region_noPanic ?_
      refine wp_region_held_drew (S := (fun u : World => u.cell? ⟨w.heap.size, 1, none⟩ = some (.slice (some ⟨b2, off2, none⟩) g.es.length ce) ∧ u.cell? ⟨b2, off2 + q * 3 + 1, none⟩ = some (.int .i64 fr) ∧ u.cell? ⟨b2, off2 + q * 3 + 2, none⟩ = some (.int .i64 tt))) (by kernel_rfl) (HMM.out _ (Below.refl _ _) (HSD.out.cell (i := 0) rfl).2) (fun hHeld => ?_)
      generalize wr.drew = wd at *
      refine wpAnyH_take (i := 0) (v := ?_) (oper_at (r := _) rfl) (by kernel_rfl) (by kernel_rfl) (by kernel_rfl) (fun _ _ _ h => h) (Or.inl ⟨by rfl, ?_⟩) (by assumption) ?_
      rotate_left
      · intro w hSw; try dsimp only at hSw
        go_simp
        try with_reducible rfl
      try simp only [Act.put, List.setIfInBounds_toArray, List.set_cons_zero, List.set_cons_succ]
      refine wpAnyH_take (i := 1) (v := ?_) (oper_at (r := _) rfl) (by kernel_rfl) (by kernel_rfl) (by kernel_rfl) (fun _ _ _ h => h) (Or.inl ⟨by rfl, ?_⟩) (by assumption) ?_
      rotate_left
      · intro w hSw; try dsimp only at hSw
        go_simp
        try with_reducible rfl
      try simp only [Act.put, List.setIfInBounds_toArray, List.set_cons_zero, List.set_cons_succ]
      refine wpAnyH_take (i := 2) (v := ?_) (oper_at (r := _) rfl) (by kernel_rfl) (by kernel_rfl) (by kernel_rfl) (fun _ _ _ h => h) (Or.inl ⟨by rfl, ?_⟩) (by assumption) ?_
      rotate_left
      · intro w hSw; try dsimp only at hSw
        go_simp
        try with_reducible rfl
      try simp only [Act.put, List.setIfInBounds_toArray, List.set_cons_zero, List.set_cons_succ]
      refine wpAnyH_take (i := 3) (v := ?_) (oper_at (r := _) rfl) (by kernel_rfl) (by kernel_rfl) (by kernel_rfl) (fun _ _ _ h => h) (Or.inl ⟨by rfl, ?_⟩) (by assumption) ?_
      rotate_left
      · intro w hSw; try dsimp only at hSw
        go_simp
        try with_reducible rfl
      try simp only [Act.put, List.setIfInBounds_toArray, List.set_cons_zero, List.set_cons_succ]
      refine wpAnyH_take (i := 4) (v := ?_) (oper_at (r := _) rfl) (by kernel_rfl) (by kernel_rfl) (by kernel_rfl) (fun _ _ _ h => h) (Or.inl ⟨by rfl, ?_⟩) (by assumption) ?_
      rotate_left
      · intro w hSw; try dsimp only at hSw
        go_simp
        try with_reducible rfl
      try simp only [Act.put, List.setIfInBounds_toArray, List.set_cons_zero, List.set_cons_succ]
      refine wpAnyH_take (i := 5) (v := ?_) (oper_at (r := _) rfl) (by kernel_rfl) (by kernel_rfl) (by kernel_rfl) (fun _ _ _ h => h) (Or.inl ⟨by rfl, ?_⟩) (by assumption) ?_
      rotate_left
      · intro w hSw; try dsimp only at hSw
        go_simp
        try with_reducible rfl
      try simp only [Act.put, List.setIfInBounds_toArray, List.set_cons_zero, List.set_cons_succ]
      refine wpAnyH_take (i := 6) (v := ?_) (oper_at (r := _) rfl) (by kernel_rfl) (by kernel_rfl) (by kernel_rfl) (fun _ _ _ h => h) (Or.inl ⟨by rfl, ?_⟩) (by assumption) ?_
      rotate_left
      · intro w hSw; try dsimp only at hSw
        go_simp
        try with_reducible rfl
      try simp only [Act.put, List.setIfInBounds_toArray, List.set_cons_zero, List.set_cons_succ]
      refine wpAnyH_take (i := 7) (v := ?_) (oper_at (r := _) rfl) (by kernel_rfl) (by kernel_rfl) (by kernel_rfl) (fun _ _ _ h => h) (Or.inl ⟨by rfl, ?_⟩) (by assumption) ?_
      rotate_left
      · intro w hSw; try dsimp only at hSw
        go_simp
        try with_reducible rfl
      try simp only [Act.put, List.setIfInBounds_toArray, List.set_cons_zero, List.set_cons_succ]
      refine wpAnyH_take (i := 8) (v := ?_) (oper_at (r := _) rfl) (by kernel_rfl) (by kernel_rfl) (by kernel_rfl) (fun _ _ _ h => h) (Or.inl ⟨by rfl, ?_⟩) (by assumption) ?_
      rotate_left
      · intro w hSw; try dsimp only at hSw
        go_simp
        try with_reducible rfl
      try simp only [Act.put, List.setIfInBounds_toArray, List.set_cons_zero, List.set_cons_succ]
      refine wpAnyH_take (i := 9) (v := ?_) (oper_at (r := _) rfl) (by kernel_rfl) (by kernel_rfl) (by kernel_rfl) (fun _ _ _ h => h) (Or.inl ⟨by rfl, ?_⟩) (by assumption) ?_
      rotate_left
      · intro w hSw; try dsimp only at hSw
        go_simp
        try with_reducible rfl
      try simp only [Act.put, List.setIfInBounds_toArray, List.set_cons_zero, List.set_cons_succ]
      refine wpAnyH_take (i := 10) (v := ?_) (oper_at (r := _) rfl) (by kernel_rfl) (by kernel_rfl) (by kernel_rfl) (fun _ _ _ h => h) (Or.inl ⟨by rfl, ?_⟩) (by assumption) ?_
      rotate_left
      · intro w hSw; try dsimp only at hSw
        go_simp
        try with_reducible rfl
      try simp only [Act.put, List.setIfInBounds_toArray, List.set_cons_zero, List.set_cons_succ]
      refine wpAnyH_take (i := 11) (v := ?_) (oper_at (r := _) rfl) (by kernel_rfl) (by kernel_rfl) (by kernel_rfl) (fun _ _ _ h => h) (Or.inl ⟨by rfl, ?_⟩) (by assumption) ?_
      rotate_left
      · intro w hSw; try dsimp only at hSw
        go_simp
        try with_reducible rfl
      try simp only [Act.put, List.setIfInBounds_toArray, List.set_cons_zero, List.set_cons_succ]
      refine wpAnyH_take (i := 12) (v := ?_) (oper_at (r := _) rfl) (by kernel_rfl) (by kernel_rfl) (by kernel_rfl) (fun _ _ _ h => h) (Or.inl ⟨by rfl, ?_⟩) (by assumption) ?_
      rotate_left
      · intro w hSw; try dsimp only at hSw
        go_simp
        try with_reducible rfl
      try simp only [Act.put, List.setIfInBounds_toArray, List.set_cons_zero, List.set_cons_succ]
      refine wpAnyH_ready (rs := [13]) (by kernel_rfl) (by simp) ?_
      refine AllReadyH.cons (oper_at (r := _) rfl) (fun K hK => ?_) AllReadyH.nil
      have hba : Below wd.heap.size wd (wd.alloc (.cells #[.int .i64 fr, .int .i64 tt] 3)) := (Below.refl _ _).alloc (Nat.le_refl _) _
      have HBA := Lib.hid hba
      have HSA := Lib.hid (HSD.out.up hba)
      have HWA := Lib.hid (HWD.out.alloc (.cells #[.int .i64 fr, .int .i64 tt] 3))
      have HRA := Lib.hid (two_cells (w := wd) (a := fr) (b := tt))
      have HSZA : Hid (B0 ≤ (wd.alloc (.cells #[.int .i64 fr, .int .i64 tt] 3)).heap.size) := Lib.hid (Nat.le_trans HSZD.out hba.size)
      clear hba
      go_simp
      refine hK.out _ _ (HMM.out _ (HBA.out.mono (Nat.le_trans (by have := HB0.out; omega) HSZD.out)) (HSA.out.cell (i := 0) rfl).2) (fun _ => ?_)
      clear hK K
      try simp only [Act.put, List.setIfInBounds_toArray, List.set_cons_zero, List.set_cons_succ]
      generalize wd.alloc (.cells #[.int .i64 fr, .int .i64 tt] 3) = wa at *
      generalize wd.heap.size = gz at *
      refine wpAnyH_ready (rs := [14]) (by kernel_rfl) (by simp) ?_
      refine AllReadyH.cons (oper_at (r := _) rfl) (fun K hK => ?_) AllReadyH.nil
      refine step_append_many (E := EInt) (by rfl) _ _ 22 3 (by rfl) Tryd.underlying22 infoInt rfl (by decide) (by decide) B0 (.slice ao rows.length cap) rows (by rfl) HWA.out (some ⟨gz, 0, none⟩) 2 2 wa.heap.size [fr, tt] (by rfl) rfl HRA.out (by have := HL9.out; omega) (by omega) HSZA.out ?_
      intro v5 w5 ho hgr hb5 _
      have HS5 := Lib.hid (SR.low HSA.out HB0.out hb5)
      have HW5 := Lib.hid (OwnE.cast HAP.out ho)
      have HSZ5 := Lib.hid (Nat.le_trans HSZA.out hb5.size)
      have HBW5 := Lib.hid ((HBA.out.mono (Nat.le_trans (by have := HB0.out; omega) HSZD.out)).trans (hb5.mono (by have := HB0.out; omega)) : Below w.heap.size wd w5)
      clear ho hgr hb5
      refine hK.out _ _ (HMM.out _ HBW5.out (HS5.out.cell (i := 0) rfl).2) (fun _ => ?_)
      clear hK K
      try simp only [Act.put, List.setIfInBounds_toArray, List.set_cons_zero, List.set_cons_succ]
      refine wpAnyH_take (i := 15) (v := ?_) (oper_at (r := _) rfl) (by kernel_rfl) (by kernel_rfl) (by kernel_rfl) (fun _ _ _ h => h) (Or.inl ⟨by rfl, ?_⟩) (by assumption) ?_
      rotate_left
      · intro w hSw; try dsimp only at hSw
        go_simp
        try with_reducible rfl
      try simp only [Act.put, List.setIfInBounds_toArray, List.set_cons_zero, List.set_cons_succ]
      refine wpAnyH_done (by kernel_rfl) ?_ _
      refine NoPanic.normal ?_
      go_wp2_with fail
      go_roundw
      case rel => exact ⟨k + 1, HLT.out, by go_num, HW5.out, HS5.out, HSZ5.out⟩
      case measure => exact HM.out
    · have e : k = xs.length := by omega
      subst e
      clear hown hsr hsz hl9
      generalize hrw : vs ++ endsOf g xs xs.length = rows at *
      clear hrw
      obtain ⟨X, x, rfl, hrd⟩ := OwnE.reads HW.out
      have HD1 := Lib.hid (distinctG_any rows X x wr HL9.out hrd)
      clear hrd
      go_wp2_with fail
      refine HD1.out.mono ?_
      rintro e w3 ⟨v3, rfl, ho3, hb3⟩
      have HO3 := Lib.hid ho3
      have HS3 := Lib.hid (HS.out.up hb3)
      obtain ⟨A3, c3, rfl⟩ := OwnE.slice ho3
      have HW3 : Hid (w.heap.size + 1 < wr.heap.size) := Lib.hid (by have := HB0.out; have := HSZ.out; omega)
      have HWL : Hid (wr.heap.size ≤ w3.heap.size) := Lib.hid hb3.size
      clear ho3 hb3 HD1
      go_wp2_with fail
      refine (HD2.out _ HS3.out.1).mono ?_
      rintro e w4 ⟨v4, rfl, ho4, hb4⟩
      have HO4 := Lib.hid ho4
      have HO34 := Lib.hid (OwnE.below HO3.out hb4 (Nat.le_refl _))
      have HS4 := Lib.hid (HS3.out.up hb4)
      obtain ⟨A4, c4, rfl⟩ := OwnE.slice ho4
      clear ho4 hb4 HO3
      obtain ⟨c2, c3'⟩ := HS4.out.cell (i := 1) rfl
      have fr0 := HS4.out.free (i := 1) rfl 0
      have fr1 := HS4.out.free (i := 1) rfl 1
      have HR9 : Hid (R = ⟨Lib.compact (srt rows), Lib.compact (srt xs)⟩) := Lib.hid HR.out
      generalize Lib.compact (srt rows) = M1 at *
      generalize Lib.compact (srt xs) = M2 at *
      go_wp2_with fail
      have HSX := Lib.hid (HS4.out.set (i := 1) rfl (.slice A3 M1.length c3) (.slice A4 M2.length c4))
      obtain ⟨r0, r1⟩ := HSX.out.cell (i := 1) rfl
      refine bodyPost_ret (v := .tuple #[.agg #[.slice A3 M1.length c3, .slice A4 M2.length c4], .int .i64 0]) (by simp [results, Tryd.results12, go_sem, r0, r1]) rfl ?_
      have s1 : OwnI ((w4.setCell ⟨w.heap.size + 1, 0, none⟩ (.slice A3 M1.length c3)).setCell ⟨w.heap.size + 1, 1, none⟩ (.slice A4 M2.length c4)) _ _ _ := ownsRow_setCell_below (ownsRow_setCell_below HO34.out (by show w.heap.size + 1 < wr.heap.size; exact HW3.out) _) (by show w.heap.size + 1 < wr.heap.size; exact HW3.out) _
      have s2 : OwnI ((w4.setCell ⟨w.heap.size + 1, 0, none⟩ (.slice A3 M1.length c3)).setCell ⟨w.heap.size + 1, 1, none⟩ (.slice A4 M2.length c4)) _ _ _ := ownsRow_setCell_below (ownsRow_setCell_below HO4.out (by show w.heap.size + 1 < w3.heap.size; exact Nat.lt_of_lt_of_le HW3.out HWL.out) _) (by show w.heap.size + 1 < w3.heap.size; exact Nat.lt_of_lt_of_le HW3.out HWL.out) _
      exact ⟨⟨.agg #[.slice A3 M1.length c3, .slice A4 M2.length c4], by rw [HEE.out]; rfl, by rw [HR9.out]; exact isM_of (g := ⟨M1, M2⟩) (isI_own s1) (isI_own s2)⟩, HSX.out.1⟩

end Go.Proofs.YthnhacncnhknnaaDoor

/-
  Graphs, the program: checkRemove.
-/
namespace Go.Proofs.YthnhacncnhknnaaDoor
open Go.RowKit

theorem dang_and (g : Gr) (vs xs : List Int) (i : Nat) : dangAt g vs xs i = if (!decide ((i : Int) ∈ xs)) && (decide ((g.es.getD i default).fr ∈ vs) || decide ((g.es.getD i default).tq ∈ vs)) then 14 else 0 := rfl

set_option maxRecDepth 100000 in
set_option maxHeartbeats 4000000 in
theorem checkRemove_any (g : Gr) (vs xs : List Int) (An : Option Addr) (cn : Nat) (Ae : Option Addr) (ce : Nat) (Av Ax : Option Addr) (cv cx : Nat) (w : World) (hT : GrAt w An cn Ae ce g) (hl1 : vs.length ≤ 1000) (hl2 : xs.length ≤ 1000) (hV : Ints w w.heap.size Av vs) (hX : Ints w w.heap.size Ax xs) :
    Calls Tryd.prog 88 #[gval An g.ns.length cn Ae g.es.length ce, .slice Av vs.length cv, .slice Ax xs.length cx] w fun e w' => e = .returned (.int .i64 (remE g vs xs)) ∧ Below w.heap.size w w' := by
  have he1 := hT.ce
  unfold maxLen at he1
  have HV := Lib.hid (validP_any g An cn Ae ce _ (hT.up (below_a w (.cells #[.slice An g.ns.length cn, .slice Ae g.es.length ce] 25 (0, 0)))))
  have HA1 := Lib.hid (fun u (hu : Below w.heap.size w u) => ascP_any vs g.ns.length Av w.heap.size cv u (by unfold maxLen; omega) (Reads.below hV hu))
  have HA2 := Lib.hid (fun u (hu : Below w.heap.size w u) => ascP_any xs g.es.length Ax w.heap.size cx u (by unfold maxLen; omega) (Reads.below hX hu))
  have HC1 := Lib.hid (fun y u (hu : Below w.heap.size w u) => contains_any vs y Av w.heap.size cv u (by unfold maxLen; omega) (Reads.below hV hu))
  have HC2 := Lib.hid (fun y u (hu : Below w.heap.size w u) => contains_any xs y Ax w.heap.size cx u (by unfold maxLen; omega) (Reads.below hX hu))
  have HE := Lib.hid hT.es
  have HR0 : Hid (remE g vs xs = if validE g ≠ 0 then validE g else if ascE vs g.ns.length ≠ 0 then ascE vs g.ns.length else if ascE xs g.es.length ≠ 0 then ascE xs g.es.length else fstN (dangAt g vs xs) 0 (g.es.length - 0)) := Lib.hid rfl
  have HD := Lib.hid (dang_and g vs xs)
  have HHIT := Lib.hid (fun k (h : k < g.es.length) hf => fstN_hit (f := dangAt g vs xs) h hf)
  have HPASS := Lib.hid (fun k (h : k < g.es.length) hf => fstN_pass (f := dangAt g vs xs) h hf)
  have HEND := Lib.hid (fun k (h : g.es.length ≤ k) => fstN_end (f := dangAt g vs xs) h)
  clear hT hV hX
  generalize remE g vs xs = R at HR0 ⊢
  generalize validE g = v at HV HR0
  generalize ascE vs g.ns.length = a1 at HA1 HR0
  generalize ascE xs g.es.length = a2 at HA2 HR0
  generalize dangAt g vs xs = f at HR0 HD HHIT HPASS HEND
  generalize vs.length = nv at *
  generalize xs.length = nx at *
  generalize hes : g.es = es at *
  clear hes
  generalize hns : g.ns.length = n at *
  clear hns
  go_enter Tryd.func88, Tryd.ntmps88
  go_wp2_with fail
  refine HV.out.mono ?_
  rintro e w1 ⟨rfl, hb1⟩
  have hb1' := below_one' hb1
  obtain ⟨c0, c1⟩ := box_cell hb1'
  have HB := Lib.hid hb1'
  have HBw := Lib.hid (box_below hb1')
  clear hb1 hb1'
  by_cases hv : v = 0
  case neg =>
    have HR := Lib.hid (show R = v by rw [HR0.out, if_pos hv])
    have t1 : ((v : Int) != 0) = true := by simp; omega
    clear hv
    go_wp2_with fail
    go_ret
    exact ⟨ret_int (by rw [HR.out]), HBw.out⟩
  subst hv
  have HR1 := Lib.hid (show R = if a1 ≠ 0 then a1 else if a2 ≠ 0 then a2 else fstN f 0 (es.length - 0) by rw [HR0.out, if_neg (fun h => h rfl)])
  clear HR0 HV
  go_wp2_with fail
  refine (HA1.out _ HBw.out).mono ?_
  rintro e w' ⟨rfl, rfl⟩
  by_cases hv : a1 = 0
  case neg =>
    have HR := Lib.hid (show R = a1 by rw [HR1.out, if_pos hv])
    have t1 : ((a1 : Int) != 0) = true := by simp; omega
    clear hv
    go_wp2_with fail
    go_ret
    exact ⟨ret_int (by rw [HR.out]), HBw.out⟩
  subst hv
  have HR2 := Lib.hid (show R = if a2 ≠ 0 then a2 else fstN f 0 (es.length - 0) by rw [HR1.out, if_neg (fun h => h rfl)])
  clear HR1 HA1
  go_wp2_with fail
  refine (HA2.out _ HBw.out).mono ?_
  rintro e w' ⟨rfl, rfl⟩
  by_cases hv : a2 = 0
  case neg =>
    have HR := Lib.hid (show R = a2 by rw [HR2.out, if_pos hv])
    have t1 : ((a2 : Int) != 0) = true := by simp; omega
    clear hv
    go_wp2_with fail
    go_ret
    exact ⟨ret_int (by rw [HR.out]), HBw.out⟩
  subst hv
  have HR3 := Lib.hid (show R = fstN f 0 (es.length - 0) by rw [HR2.out, if_neg (fun h => h rfl)])
  clear HR2 HA2
  go_wp2_with fail
  go_loopw [37] (fun vi wr => ∃ k : Nat, k ≤ es.length ∧ vi = .int .i64 k ∧ R = fstN f k (es.length - k) ∧ Below (w.heap.size + 1) (w.alloc (.cells #[.slice An n cn, .slice Ae es.length ce] 25 (0, 0))) wr) (fun vi _ => es.length - (intOf vi).toNat)
  case atStart => exact ⟨0, Nat.zero_le _, rfl, HR3.out, HB.out⟩
  case round =>
    clear HB HR3 HBw c0 c1
    obtain ⟨k, hk, rfl, hr, hbel⟩ := hrel
    have HR := Lib.hid hr
    obtain ⟨c0, c1⟩ := box_cell hbel
    have hs0 : w.heap.size < wr.heap.size := by have := hbel.size; simp at this; omega
    have HB := Lib.hid hbel
    have HBw := Lib.hid (box_below hbel)
    clear hr hbel
    by_cases hlt : k < es.length
    case neg =>
      have HZ := Lib.hid (show R = 0 by rw [HR.out, HEND.out k (by omega)])
      go_wp2_with fail
      go_ret
      exact ⟨ret_int (by rw [HZ.out]; rfl), HBw.out⟩
    obtain ⟨b, off, rfl, hb, hc⟩ := Eds.cells (HE.out.below HBw.out) hlt
    obtain ⟨k0, k1, k2⟩ := hc k hlt
    have HDk := Lib.hid (HD.out k)
    have HBa := Lib.hid (HBw.out.trans ((below_a wr (.cells #[.int .i64 (es.getD k default).ty, .int .i64 (es.getD k default).fr, .int .i64 (es.getD k default).tq] 73 (0, 0))).mono HBw.out.size))
    have HB1 := Lib.hid (HB.out.alloc hs0 (.cells #[.int .i64 (es.getD k default).ty, .int .i64 (es.getD k default).fr, .int .i64 (es.getD k default).tq] 73 (0, 0)))
    have hb9 : b < wr.heap.size := by omega
    have H1 := Lib.hid (HC1.out (es.getD k default).fr _ HBa.out)
    have H2 := Lib.hid (HC1.out (es.getD k default).tq _ HBa.out)
    have H3 := Lib.hid (HC2.out (k : Int) _ HBa.out)
    have HHk := Lib.hid (HHIT.out k hlt)
    have HPk := Lib.hid (HPASS.out k hlt)
    clear hc HD HHIT HPASS HBa
    generalize es.getD k default = x at *
    generalize decide (x.fr ∈ vs) = z1 at H1 HDk
    generalize decide (x.tq ∈ vs) = z2 at H2 HDk
    generalize decide ((k : Int) ∈ xs) = z3 at H3 HDk
    cases z1
    case false =>
      go_wp2_with fail
      refine H1.out.mono ?_
      rintro e w' ⟨rfl, rfl⟩
      go_wp2_with fail
      refine H2.out.mono ?_
      rintro e w' ⟨rfl, rfl⟩
      cases z2
      case false =>
        have HN := Lib.hid (show R = fstN f (k + 1) (es.length - (k + 1)) by rw [HR.out, HPk.out (by rw [HDk.out]; cases z3 <;> rfl)])
        go_wp2_with fail
        go_roundw
        case rel => exact ⟨k + 1, by omega, by go_num, HN.out, HB1.out⟩
        case measure => simp [intOf]; omega
      case true =>
        go_wp2_with fail
        refine H3.out.mono ?_
        rintro e w' ⟨rfl, rfl⟩
        cases z3
        case false =>
          have hf : f k = 14 := by rw [HDk.out]; rfl
          have HN := Lib.hid (show R = 14 by rw [HR.out, HHk.out (by omega), hf])
          clear hf
          go_wp2_with fail
          go_ret
          exact ⟨ret_int (by rw [HN.out]; rfl), box_below HB1.out⟩
        case true =>
          have HN := Lib.hid (show R = fstN f (k + 1) (es.length - (k + 1)) by rw [HR.out, HPk.out (by rw [HDk.out]; rfl)])
          go_wp2_with fail
          go_roundw
          case rel => exact ⟨k + 1, by omega, by go_num, HN.out, HB1.out⟩
          case measure => simp [intOf]; omega
    case true =>
      go_wp2_with fail
      refine H1.out.mono ?_
      rintro e w' ⟨rfl, rfl⟩
      go_wp2_with fail
      refine H3.out.mono ?_
      rintro e w' ⟨rfl, rfl⟩
      cases z3
      case false =>
        have hf : f k = 14 := by rw [HDk.out]; rfl
        have HN := Lib.hid (show R = 14 by rw [HR.out, HHk.out (by omega), hf])
        clear hf
        go_wp2_with fail
        go_ret
        exact ⟨ret_int (by rw [HN.out]; rfl), box_below HB1.out⟩
      case true =>
        have HN := Lib.hid (show R = fstN f (k + 1) (es.length - (k + 1)) by rw [HR.out, HPk.out (by rw [HDk.out]; rfl)])
        go_wp2_with fail
        go_roundw
        case rel => exact ⟨k + 1, by omega, by go_num, HN.out, HB1.out⟩
        case measure => simp [intOf]; omega

end Go.Proofs.YthnhacncnhknnaaDoor
