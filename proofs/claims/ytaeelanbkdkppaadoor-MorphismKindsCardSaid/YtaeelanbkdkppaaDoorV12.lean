import Derived.Test.YtaeelanbkdkppaaDoorV11
import Derived.Test.YtaeelanbkdkppaaDoorV06
import Derived.Test.YtaeelanbkdkppaaDoorV09
import Derived.Test.YtaeelanbkdkppaaDoorV05
import Derived.Test.YtaeelanbkdkppaaDoorV10
import Derived.Lay
import Derived.MakeChecks
import Derived.Lib.LaidTab
import Derived.Test.YtaeelanbkdkppaaDoorRows
/-
  chain: a graph, its image, and the image of this.
-/
namespace Go.Proofs.YtaeelanbkdkppaaDoor
open Go.RowKit Go.Shelf

/-- a call that hands over a graph's image -/
theorem imageG (g : Gr) (An : Option Addr) (cn : Nat) (Ae : Option Addr) (ce : Nat) (codes : List Nat) (Ac : Option Addr) (cc : Nat) (u : World) (hT : GrAt u An cn Ae ce g) (hv : validE g = 0) (hC : Reads EBy u u.heap.size Ac codes) (hb : ∀ i, codes.getD i 0 < 256) (hl : codes.length ≤ 1000) :
    Calls Tryd.prog 35 #[gval An g.ns.length cn Ae g.es.length ce, .slice Ac codes.length cc] u fun e w' => (∃ X : Ar, e = .returned (.tuple #[gval X.An X.g.ns.length X.cn X.Ae X.g.es.length X.ce, gval X.Mn X.m.ns.length X.mn X.Me X.m.es.length X.me]) ∧ ArAt w' X ∧ MorOk g X.g X.m ∧ X.g.ns.length ≤ g.ns.length ∧ X.g.es.length ≤ g.es.length) ∧ Below u.heap.size u w' := by
  refine (image_any g An cn Ae ce codes Ac cc u hT hv hC hb hl).mono ?_
  rintro e w' ⟨⟨v, x, h, m, rfl, ⟨Bn, dn, Be, de, rfl, hG⟩, ⟨Mn, mn, Me, me, rfl, hM⟩, hk, l1, l2⟩, hb⟩
  obtain ⟨q1, q2, _⟩ := valid_zero hv
  exact ⟨⟨⟨h, m, Bn, dn, Be, de, Mn, mn, Me, me⟩, rfl, ⟨hG, hM.ns, hM.es, by show m.ns.length ≤ _; have := hk.ln; omega, by show m.es.length ≤ _; have := hk.le; omega⟩, hk, l1, l2⟩, hb⟩

/-- a store into a box of slices -/
theorem reads_box {α : Type} {E : El α} (hE : ∀ x u, u ∈ E.enc x → ∀ a n c, u ≠ .slice a n c) {w w' : World} {B : Nat} {A : Option Addr} {xs : List α} (h : Reads E w B A xs) {g : Nat} {cs : Array Value} {t : TypeId} (hb : w.heap[g]? = some (.cells cs t (0, 0))) (hs : ∀ u ∈ cs.toList, ∃ a n c, u = .slice a n c)
    (hk : ∀ k, k ≠ g → w'.heap[k]? = w.heap[k]?) : Reads E w' B A xs := by
  rcases h with h | ⟨b, off, h1, h2, h3⟩
  · exact .inl h
  · refine .inr ⟨b, off, h1, h2, fun i x hx q u hu => ?_⟩
    have hc := h3 i x hx q u hu
    have hne : b ≠ g := fun e => by
      subst e
      rw [cell_of_row _ _ _ _ _ _ hb] at hc
      have hm : u ∈ cs := Array.mem_of_getElem? hc
      obtain ⟨a, n, c, e⟩ := hs u (by simpa using hm)
      exact hE x u (List.mem_of_getElem? hu) a n c e
    exact (cell_heap (p := ⟨b, off + i * E.size + q, none⟩) (hk b hne)).trans hc
theorem nsI : ∀ x u, u ∈ EInt.enc x → ∀ a n c, u ≠ .slice a n c := fun x u h a n c e => by simp [EInt] at h; rw [h] at e; cases e
theorem nsE : ∀ x u, u ∈ EEd.enc x → ∀ a n c, u ≠ .slice a n c := fun x u h a n c e => by simp [EEd] at h; rcases h with h | h | h <;> · rw [h] at e; cases e
/-- what chain hands over -/
structure KP (A1 : Option Addr) (k1 : Nat) (A2 : Option Addr) (k2 : Nat) (g : Gr) (X Y : Ar) (V : World) : Prop where
  g : GrAt V A1 k1 A2 k2 g
  x : ArAt V X
  y : ArAt V Y
theorem KP.up {A1 : Option Addr} {k1 : Nat} {A2 : Option Addr} {k2 : Nat} {g : Gr} {X Y : Ar} {V V' : World} (h : KP A1 k1 A2 k2 g X Y V) (hb : Below V.heap.size V V') : KP A1 k1 A2 k2 g X Y V' := ⟨h.g.up hb, h.x.up hb, h.y.up hb⟩
theorem GrAt.box {w w' : World} {An : Option Addr} {cn : Nat} {Ae : Option Addr} {ce : Nat} {x : Gr} (h : GrAt w An cn Ae ce x) {b : Nat} {cs : Array Value} {t : TypeId} (hb : w.heap[b]? = some (.cells cs t (0, 0))) (hs : ∀ u ∈ cs.toList, ∃ a n c, u = .slice a n c) (hk : ∀ k, k ≠ b → w'.heap[k]? = w.heap[k]?) (hz : w'.heap.size = w.heap.size) : GrAt w' An cn Ae ce x :=
  ⟨by rw [hz]; exact reads_box nsI h.ns hb hs hk, by rw [hz]; exact reads_box nsE h.es hb hs hk, h.cn, h.ce⟩
theorem ArAt.box {w w' : World} {x : Ar} (h : ArAt w x) {b : Nat} {cs : Array Value} {t : TypeId} (hb : w.heap[b]? = some (.cells cs t (0, 0))) (hs : ∀ u ∈ cs.toList, ∃ a n c, u = .slice a n c) (hk : ∀ k, k ≠ b → w'.heap[k]? = w.heap[k]?) (hz : w'.heap.size = w.heap.size) : ArAt w' x :=
  ⟨h.gr.box hb hs hk hz, by rw [hz]; exact reads_box nsI h.m1 hb hs hk, by rw [hz]; exact reads_box nsI h.m2 hb hs hk, h.l1, h.l2⟩
theorem KP.box {A1 : Option Addr} {k1 : Nat} {A2 : Option Addr} {k2 : Nat} {g : Gr} {X Y : Ar} {w w' : World} (h : KP A1 k1 A2 k2 g X Y w) {b : Nat} {cs : Array Value} {t : TypeId} (hb : w.heap[b]? = some (.cells cs t (0, 0))) (hs : ∀ u ∈ cs.toList, ∃ a n c, u = .slice a n c) (hk : ∀ k, k ≠ b → w'.heap[k]? = w.heap[k]?) (hz : w'.heap.size = w.heap.size) : KP A1 k1 A2 k2 g X Y w' :=
  ⟨h.g.box hb hs hk hz, h.x.box hb hs hk hz, h.y.box hb hs hk hz⟩
def st2 (V : World) (k : Nat) (a b : Value) : World := (V.setCell ⟨k, 0, none⟩ a).setCell ⟨k, 1, none⟩ b
def st4 (V : World) (k : Nat) (a b c d : Value) : World := (((V.setCell ⟨k, 0, none⟩ a).setCell ⟨k, 1, none⟩ b).setCell ⟨k, 2, none⟩ c).setCell ⟨k, 3, none⟩ d
theorem st2_at {V : World} {k : Nat} {a b x y : Value} {t : TypeId} (h : V.heap[k]? = some (.cells #[x, y] t (0, 0))) : (st2 V k a b).heap[k]? = some (.cells #[a, b] t (0, 0)) := heap_setCell_same _ k 1 _ _ b (heap_setCell_same V k 0 _ _ a h)
theorem st4_at {V : World} {k : Nat} {a b c d x y z u : Value} {t : TypeId} (h : V.heap[k]? = some (.cells #[x, y, z, u] t (0, 0))) : (st4 V k a b c d).heap[k]? = some (.cells #[a, b, c, d] t (0, 0)) :=
  heap_setCell_same _ k 3 _ _ d (heap_setCell_same _ k 2 _ _ c (heap_setCell_same _ k 1 _ _ b (heap_setCell_same V k 0 _ _ a h)))
theorem st2_other {V : World} {k : Nat} {a b : Value} : ∀ i, i ≠ k → (st2 V k a b).heap[i]? = V.heap[i]? := fun _ h => (heap_setCell_other _ _ _ _ h).trans (heap_setCell_other _ _ _ _ h)
theorem st4_other {V : World} {k : Nat} {a b c d : Value} : ∀ i, i ≠ k → (st4 V k a b c d).heap[i]? = V.heap[i]? := fun _ h => (heap_setCell_other _ _ _ _ h).trans ((heap_setCell_other _ _ _ _ h).trans ((heap_setCell_other _ _ _ _ h).trans (heap_setCell_other _ _ _ _ h)))
theorem st2_size {V : World} {k : Nat} {a b : Value} : (st2 V k a b).heap.size = V.heap.size := by simp [st2]
theorem st4_size {V : World} {k : Nat} {a b c d : Value} : (st4 V k a b c d).heap.size = V.heap.size := by simp [st4]
theorem st2_below {B : Nat} {w V : World} (h : Below B w V) {k : Nat} (hk : B ≤ k) (a b : Value) : Below B w (st2 V k a b) := (h.setCell (p := ⟨k, 0, none⟩) hk a).setCell (p := ⟨k, 1, none⟩) hk b
theorem st4_below {B : Nat} {w V : World} (h : Below B w V) {k : Nat} (hk : B ≤ k) (a b c d : Value) : Below B w (st4 V k a b c d) := (((h.setCell (p := ⟨k, 0, none⟩) hk a).setCell (p := ⟨k, 1, none⟩) hk b).setCell (p := ⟨k, 2, none⟩) hk c).setCell (p := ⟨k, 3, none⟩) hk d

set_option maxRecDepth 100000 in
set_option maxHeartbeats 4000000 in
theorem chain_any (d : Dr) (An : Option Addr) (cn : Nat) (Ae : Option Addr) (ce : Nat) (x : List Nat) (Ax : Option Addr) (cx : Nat) (y : List Nat) (Ay : Option Addr) (cy : Nat) (w : World) (hD : DrAt w An cn Ae ce d) (hX : Reads EBy w w.heap.size Ax x) (hx : ∀ i, x.getD i 0 < 256) (hxl : x.length ≤ 1000) (hY : Reads EBy w w.heap.size Ay y) (hy : ∀ i, y.getD i 0 < 256) (hyl : y.length ≤ 1000) :
    Calls Tryd.prog 34 #[gval An d.ns.length cn Ae d.es.length ce, .slice Ax x.length cx, .slice Ay y.length cy] w fun e w' => (∃ (A1 : Option Addr) (c1 : Nat) (A2 : Option Addr) (c2 : Nat) (X Y : Ar), e = .returned (.tuple #[gval A1 (madeG d).ns.length c1 A2 (madeG d).es.length c2, X.val, Y.val]) ∧ GrAt w' A1 c1 A2 c2 (madeG d) ∧ ArAt w' X ∧ ArAt w' Y ∧ MorOk (madeG d) X.g X.m ∧ MorOk X.g Y.g Y.m ∧ Y.g.ns.length ≤ 8) ∧ Below w.heap.size w w' := by
  have HMD := Lib.hid (fun (u : World) (hu : Below w.heap.size w u) => made_any d An cn Ae ce u (hD.up hu))
  have HV := Lib.hid (made_valid d)
  have HL8 : Hid ((madeG d).ns.length ≤ 8) := Lib.hid (by have := (made_lens d).1; have := (drN_le d).1; omega)
  have HIX := Lib.hid (fun (g : Gr) (hv : validE g = 0) (u : World) (hu : Below w.heap.size w u) A1 c1 A2 c2 (hT : GrAt u A1 c1 A2 c2 g) => imageG g A1 c1 A2 c2 x Ax cx u hT hv (Reads.up hX hu) hx hxl)
  have HIY := Lib.hid (fun (g : Gr) (hv : validE g = 0) (u : World) (hu : Below w.heap.size w u) A1 c1 A2 c2 (hT : GrAt u A1 c1 A2 c2 g) => imageG g A1 c1 A2 c2 y Ay cy u hT hv (Reads.up hY hu) hy hyl)
  have HS0 : Hid (SV w [([.slice An d.ns.length cn, .slice Ae d.es.length ce], 56), ([.slice none 0 0, .slice none 0 0], 25), ([.slice none 0 0, .slice none 0 0, .slice none 0 0, .slice none 0 0], 29), ([.slice none 0 0, .slice none 0 0, .slice none 0 0, .slice none 0 0], 29)] _) := Lib.hid (SV.push (SV.push (SV.push (SV.push (SV.nil w) rfl [.slice An d.ns.length cn, .slice Ae d.es.length ce] 56) (by simp) [.slice none 0 0, .slice none 0 0] 25) (by simp) [.slice none 0 0, .slice none 0 0, .slice none 0 0, .slice none 0 0] 29) (by simp) [.slice none 0 0, .slice none 0 0, .slice none 0 0, .slice none 0 0] 29)
  clear hD hX hx hxl hY hy hyl
  generalize madeG d = g at *
  have c0 := HS0.out.cell (i := 0) (j := 0) rfl rfl
  have c1 := HS0.out.cell (i := 0) (j := 1) rfl rfl
  simp only [Nat.add_zero] at c0 c1
  go_enter Tryd.func34, Tryd.ntmps34
  go_wp2_with fail
  refine (HMD.out _ HS0.out.1).mono ?_
  rintro e w1 ⟨⟨v, rfl, ⟨A1, k1, A2, k2, rfl, hG⟩⟩, hb1⟩
  have HS1 := Lib.hid (HS0.out.up hb1)
  have HG1 := Lib.hid hG
  clear hb1 hG HS0 HMD c0 c1
  go_upto_region 2 with fail
  have hb : Below w1.heap.size w1 (w1.alloc (.cells #[.slice A1 g.ns.length k1, .slice A2 g.es.length k2] 25)) := (Below.refl _ _).alloc (Nat.le_refl _) _
  have HS2 := Lib.hid (HS1.out.up hb)
  have HG2 := Lib.hid (HG1.out.up hb)
  have HA2 : Hid (BX w1.heap.size (.slice A1 g.ns.length k1) (.slice A2 g.es.length k2) 25 (w1.alloc (.cells #[.slice A1 g.ns.length k1, .slice A2 g.es.length k2] 25))) := Lib.hid (heap_alloc_new _ _)
  generalize w1.alloc (.cells #[.slice A1 g.ns.length k1, .slice A2 g.es.length k2] 25) = w2 at *
  have hga : w.heap.size + 4 ≤ w1.heap.size := HS1.out.2.1
  generalize w1.heap.size = ga at *
  clear hb HS1 HG1
  obtain ⟨b0, b1⟩ := HA2.out.cells
  go_wp2_with fail
  refine (HIX.out g HV.out _ HS2.out.1 _ _ _ _ HG2.out).mono ?_
  rintro e w3 ⟨⟨X, rfl, hX, hkX, lX, _⟩, hb3⟩
  have HS3 := Lib.hid (HS2.out.up hb3)
  have HG3 := Lib.hid (HG2.out.up hb3)
  have HA3 := Lib.hid (HA2.out.up hb3)
  have HX3 := Lib.hid hX
  have HKX := Lib.hid hkX
  have HLX := Lib.hid lX
  clear hX hkX lX hb3 HS2 HG2 HA2 HIX b0 b1
  go_upto_region 3 with fail
  have hb : Below w3.heap.size w3 ((w3.alloc (.cells #[.slice X.An X.g.ns.length X.cn, .slice X.Ae X.g.es.length X.ce] 25)).alloc (.cells #[.slice X.Mn X.m.ns.length X.mn, .slice X.Me X.m.es.length X.me] 27)) := ((Below.refl _ _).alloc (Nat.le_refl _) _).alloc (by simp) _
  have HS3' := Lib.hid (HS3.out.up hb)
  have HG3' := Lib.hid (HG3.out.up hb)
  have HA3' := Lib.hid (HA3.out.up hb)
  have HX3' := Lib.hid (HX3.out.up hb)
  have HBX : Hid (BX w3.heap.size (.slice X.An X.g.ns.length X.cn) (.slice X.Ae X.g.es.length X.ce) 25 ((w3.alloc (.cells #[.slice X.An X.g.ns.length X.cn, .slice X.Ae X.g.es.length X.ce] 25)).alloc (.cells #[.slice X.Mn X.m.ns.length X.mn, .slice X.Me X.m.es.length X.me] 27))) := Lib.hid (heap_two _ _ _)
  have HNX : Hid (BX (w3.heap.size + 1) (.slice X.Mn X.m.ns.length X.mn) (.slice X.Me X.m.es.length X.me) 27 ((w3.alloc (.cells #[.slice X.An X.g.ns.length X.cn, .slice X.Ae X.g.es.length X.ce] 25)).alloc (.cells #[.slice X.Mn X.m.ns.length X.mn, .slice X.Me X.m.es.length X.me] 27))) := Lib.hid (heap_two' _ _ _)
  generalize (w3.alloc (.cells #[.slice X.An X.g.ns.length X.cn, .slice X.Ae X.g.es.length X.ce] 25)).alloc (.cells #[.slice X.Mn X.m.ns.length X.mn, .slice X.Me X.m.es.length X.me] 27) = w4 at *
  have hgb : w.heap.size + 4 ≤ w3.heap.size := HS3.out.2.1
  generalize w3.heap.size = gb at *
  clear hb HS3 HG3 HA3 HX3
  obtain ⟨b0, b1⟩ := HBX.out.cells
  go_wp2_with fail
  refine (HIY.out X.g HKX.out.vb _ HS3'.out.1 _ _ _ _ HX3'.out.gr).mono ?_
  rintro e w5 ⟨⟨Y, rfl, hY, hkY, lY, _⟩, hb5⟩
  have HS5 := Lib.hid (HS3'.out.up hb5)
  have HG5 := Lib.hid (HG3'.out.up hb5)
  have HA5 := Lib.hid (HA3'.out.up hb5)
  have HX5 := Lib.hid (HX3'.out.up hb5)
  have HBX5 := Lib.hid (HBX.out.up hb5)
  have HNX5 := Lib.hid (HNX.out.up hb5)
  have HY5 := Lib.hid hY
  have HKY := Lib.hid hkY
  have HLY : Hid (Y.g.ns.length ≤ 8) := Lib.hid (by have := HL8.out; have := HLX.out; omega)
  clear hY hkY lY hb5 HS3' HG3' HA3' HX3' HBX HNX HIY b0 b1 HL8 HLX
  go_upto_region 4 with fail
  have hb : Below w5.heap.size w5 ((w5.alloc (.cells #[.slice Y.An Y.g.ns.length Y.cn, .slice Y.Ae Y.g.es.length Y.ce] 25)).alloc (.cells #[.slice Y.Mn Y.m.ns.length Y.mn, .slice Y.Me Y.m.es.length Y.me] 27)) := ((Below.refl _ _).alloc (Nat.le_refl _) _).alloc (by simp) _
  have HS5' := Lib.hid (HS5.out.up hb)
  have HG5' := Lib.hid (HG5.out.up hb)
  have HA5' := Lib.hid (HA5.out.up hb)
  have HX5' := Lib.hid (HX5.out.up hb)
  have HBX5' := Lib.hid (HBX5.out.up hb)
  have HNX5' := Lib.hid (HNX5.out.up hb)
  have HY5' := Lib.hid (HY5.out.up hb)
  have HBY : Hid (BX w5.heap.size (.slice Y.An Y.g.ns.length Y.cn) (.slice Y.Ae Y.g.es.length Y.ce) 25 ((w5.alloc (.cells #[.slice Y.An Y.g.ns.length Y.cn, .slice Y.Ae Y.g.es.length Y.ce] 25)).alloc (.cells #[.slice Y.Mn Y.m.ns.length Y.mn, .slice Y.Me Y.m.es.length Y.me] 27))) := Lib.hid (heap_two _ _ _)
  have HNY : Hid (BX (w5.heap.size + 1) (.slice Y.Mn Y.m.ns.length Y.mn) (.slice Y.Me Y.m.es.length Y.me) 27 ((w5.alloc (.cells #[.slice Y.An Y.g.ns.length Y.cn, .slice Y.Ae Y.g.es.length Y.ce] 25)).alloc (.cells #[.slice Y.Mn Y.m.ns.length Y.mn, .slice Y.Me Y.m.es.length Y.me] 27))) := Lib.hid (heap_two' _ _ _)
  generalize (w5.alloc (.cells #[.slice Y.An Y.g.ns.length Y.cn, .slice Y.Ae Y.g.es.length Y.ce] 25)).alloc (.cells #[.slice Y.Mn Y.m.ns.length Y.mn, .slice Y.Me Y.m.es.length Y.me] 27) = w6 at *
  have hgc : w.heap.size + 4 ≤ w5.heap.size := HS5.out.2.1
  generalize w5.heap.size = gc at *
  clear hb HS5 HG5 HA5 HX5 HBX5 HNX5 HY5
  have HK : Hid (KP A1 k1 A2 k2 g X Y w6.drew) := Lib.hid (KP.up ⟨HG5'.out, HX5'.out, HY5'.out⟩ (below_d w6))
  have HSD := Lib.hid (HS5'.out.up (below_d w6))
  have a0 := HA5'.out.up (below_d w6)
  have a1 := HBX5'.out.up (below_d w6)
  have a2 := HNX5'.out.up (below_d w6)
  have a3 := HBY.out.up (below_d w6)
  have a4 := HNY.out.up (below_d w6)
  have HS0 : Hid ((fun u0 : World => u0.cell? ⟨ga, 0, none⟩ = some (.slice A1 g.ns.length k1) ∧ u0.cell? ⟨ga, 1, none⟩ = some (.slice A2 g.es.length k2) ∧ u0.cell? ⟨gb, 0, none⟩ = some (.slice X.An X.g.ns.length X.cn) ∧ u0.cell? ⟨gb, 1, none⟩ = some (.slice X.Ae X.g.es.length X.ce) ∧ u0.cell? ⟨gb + 1, 0, none⟩ = some (.slice X.Mn X.m.ns.length X.mn) ∧ u0.cell? ⟨gb + 1, 1, none⟩ = some (.slice X.Me X.m.es.length X.me) ∧ u0.cell? ⟨gc, 0, none⟩ = some (.slice Y.An Y.g.ns.length Y.cn) ∧ u0.cell? ⟨gc, 1, none⟩ = some (.slice Y.Ae Y.g.es.length Y.ce) ∧ u0.cell? ⟨gc + 1, 0, none⟩ = some (.slice Y.Mn Y.m.ns.length Y.mn) ∧ u0.cell? ⟨gc + 1, 1, none⟩ = some (.slice Y.Me Y.m.es.length Y.me)) w6.drew) := Lib.hid ⟨a0.cells.1, a0.cells.2, a1.cells.1, a1.cells.2, a2.cells.1, a2.cells.2, a3.cells.1, a3.cells.2, a4.cells.1, a4.cells.2⟩
  clear a0 a1 a2 a3 a4
  go_wp2_with fail
  refine wp_region_noPanic ?_
  refine wp_region_held_drew (S := (fun u0 : World => u0.cell? ⟨ga, 0, none⟩ = some (.slice A1 g.ns.length k1) ∧ u0.cell? ⟨ga, 1, none⟩ = some (.slice A2 g.es.length k2) ∧ u0.cell? ⟨gb, 0, none⟩ = some (.slice X.An X.g.ns.length X.cn) ∧ u0.cell? ⟨gb, 1, none⟩ = some (.slice X.Ae X.g.es.length X.ce) ∧ u0.cell? ⟨gb + 1, 0, none⟩ = some (.slice X.Mn X.m.ns.length X.mn) ∧ u0.cell? ⟨gb + 1, 1, none⟩ = some (.slice X.Me X.m.es.length X.me) ∧ u0.cell? ⟨gc, 0, none⟩ = some (.slice Y.An Y.g.ns.length Y.cn) ∧ u0.cell? ⟨gc, 1, none⟩ = some (.slice Y.Ae Y.g.es.length Y.ce) ∧ u0.cell? ⟨gc + 1, 0, none⟩ = some (.slice Y.Mn Y.m.ns.length Y.mn) ∧ u0.cell? ⟨gc + 1, 1, none⟩ = some (.slice Y.Me Y.m.es.length Y.me))) (by kernel_rfl) (HS0.out) (fun hHeld => ?_)
  generalize w6.drew = wd at *
  refine wpAnyH_take (i := 0) (v := ?_) (oper_at (r := _) rfl) (by kernel_rfl) (by kernel_rfl) (by kernel_rfl) (fun _ _ _ h => h) (Or.inl ⟨by rfl, ?_⟩) (by assumption) ?_
  rotate_left
  · intro w hSw; try dsimp only at hSw
    go_simp
    try with_reducible rfl
  try simp only [Act.put, List.setIfInBounds_toArray, List.set_cons_zero, List.set_cons_succ]
  refine wpAnyH_take (i := 1) (v := ?_) (oper_at (r := _) rfl) (by kernel_rfl) (by kernel_rfl) (by kernel_rfl) (fun _ _ _ h => h) (Or.inl ⟨by rfl, ?_⟩) (by assumption) ?_
  rotate_left
  · intro w hSw; try dsimp only at hSw
    go_simp
    try with_reducible rfl
  try simp only [Act.put, List.setIfInBounds_toArray, List.set_cons_zero, List.set_cons_succ]
  refine wpAnyH_take (i := 2) (v := ?_) (oper_at (r := _) rfl) (by kernel_rfl) (by kernel_rfl) (by kernel_rfl) (fun _ _ _ h => h) (Or.inl ⟨by rfl, ?_⟩) (by assumption) ?_
  rotate_left
  · intro w hSw; try dsimp only at hSw
    go_simp
    try with_reducible rfl
  try simp only [Act.put, List.setIfInBounds_toArray, List.set_cons_zero, List.set_cons_succ]
  refine wpAnyH_take (i := 3) (v := ?_) (oper_at (r := _) rfl) (by kernel_rfl) (by kernel_rfl) (by kernel_rfl) (fun _ _ _ h => h) (Or.inl ⟨by rfl, ?_⟩) (by assumption) ?_
  rotate_left
  · intro w hSw; try dsimp only at hSw
    go_simp
    try with_reducible rfl
  try simp only [Act.put, List.setIfInBounds_toArray, List.set_cons_zero, List.set_cons_succ]
  refine wpAnyH_take (i := 4) (v := ?_) (oper_at (r := _) rfl) (by kernel_rfl) (by kernel_rfl) (by kernel_rfl) (fun _ _ _ h => h) (Or.inl ⟨by rfl, ?_⟩) (by assumption) ?_
  rotate_left
  · intro w hSw; try dsimp only at hSw
    go_simp
    try with_reducible rfl
  try simp only [Act.put, List.setIfInBounds_toArray, List.set_cons_zero, List.set_cons_succ]
  refine wpAnyH_take (i := 5) (v := ?_) (oper_at (r := _) rfl) (by kernel_rfl) (by kernel_rfl) (by kernel_rfl) (fun _ _ _ h => h) (Or.inl ⟨by rfl, ?_⟩) (by assumption) ?_
  rotate_left
  · intro w hSw; try dsimp only at hSw
    go_simp
    try with_reducible rfl
  try simp only [Act.put, List.setIfInBounds_toArray, List.set_cons_zero, List.set_cons_succ]
  refine wpAnyH_take (i := 6) (v := ?_) (oper_at (r := _) rfl) (by kernel_rfl) (by kernel_rfl) (by kernel_rfl) (fun _ _ _ h => h) (Or.inl ⟨by rfl, ?_⟩) (by assumption) ?_
  rotate_left
  · intro w hSw; try dsimp only at hSw
    go_simp
    try with_reducible rfl
  try simp only [Act.put, List.setIfInBounds_toArray, List.set_cons_zero, List.set_cons_succ]
  have B1 : wd.heap[w.heap.size + 1]? = some (.cells #[.slice none 0 0, .slice none 0 0] 25 (0, 0)) := HSD.out.2.2 1 _ rfl
  have B2 : wd.heap[w.heap.size + 1 + 1]? = some (.cells #[.slice none 0 0, .slice none 0 0, .slice none 0 0, .slice none 0 0] 29 (0, 0)) := HSD.out.2.2 2 _ rfl
  have B3 : wd.heap[w.heap.size + 1 + 1 + 1]? = some (.cells #[.slice none 0 0, .slice none 0 0, .slice none 0 0, .slice none 0 0] 29 (0, 0)) := HSD.out.2.2 3 _ rfl
  have sl2 : ∀ u ∈ (#[(.slice none 0 0 : Value), .slice none 0 0] : Array Value).toList, ∃ a n c, u = .slice a n c := fun u hu => by simp at hu; exact ⟨_, _, _, hu⟩
  have sl4 : ∀ u ∈ (#[(.slice none 0 0 : Value), .slice none 0 0, .slice none 0 0, .slice none 0 0] : Array Value).toList, ∃ a n c, u = .slice a n c := fun u hu => by simp at hu; exact ⟨_, _, _, hu⟩
  have far : ∀ (V V' : World) (k : Nat), k < w.heap.size + 4 → (∀ i, i ≠ k → V'.heap[i]? = V.heap[i]?) → (fun u0 : World => u0.cell? ⟨ga, 0, none⟩ = some (.slice A1 g.ns.length k1) ∧ u0.cell? ⟨ga, 1, none⟩ = some (.slice A2 g.es.length k2) ∧ u0.cell? ⟨gb, 0, none⟩ = some (.slice X.An X.g.ns.length X.cn) ∧ u0.cell? ⟨gb, 1, none⟩ = some (.slice X.Ae X.g.es.length X.ce) ∧ u0.cell? ⟨gb + 1, 0, none⟩ = some (.slice X.Mn X.m.ns.length X.mn) ∧ u0.cell? ⟨gb + 1, 1, none⟩ = some (.slice X.Me X.m.es.length X.me) ∧ u0.cell? ⟨gc, 0, none⟩ = some (.slice Y.An Y.g.ns.length Y.cn) ∧ u0.cell? ⟨gc, 1, none⟩ = some (.slice Y.Ae Y.g.es.length Y.ce) ∧ u0.cell? ⟨gc + 1, 0, none⟩ = some (.slice Y.Mn Y.m.ns.length Y.mn) ∧ u0.cell? ⟨gc + 1, 1, none⟩ = some (.slice Y.Me Y.m.es.length Y.me)) V → (fun u0 : World => u0.cell? ⟨ga, 0, none⟩ = some (.slice A1 g.ns.length k1) ∧ u0.cell? ⟨ga, 1, none⟩ = some (.slice A2 g.es.length k2) ∧ u0.cell? ⟨gb, 0, none⟩ = some (.slice X.An X.g.ns.length X.cn) ∧ u0.cell? ⟨gb, 1, none⟩ = some (.slice X.Ae X.g.es.length X.ce) ∧ u0.cell? ⟨gb + 1, 0, none⟩ = some (.slice X.Mn X.m.ns.length X.mn) ∧ u0.cell? ⟨gb + 1, 1, none⟩ = some (.slice X.Me X.m.es.length X.me) ∧ u0.cell? ⟨gc, 0, none⟩ = some (.slice Y.An Y.g.ns.length Y.cn) ∧ u0.cell? ⟨gc, 1, none⟩ = some (.slice Y.Ae Y.g.es.length Y.ce) ∧ u0.cell? ⟨gc + 1, 0, none⟩ = some (.slice Y.Mn Y.m.ns.length Y.mn) ∧ u0.cell? ⟨gc + 1, 1, none⟩ = some (.slice Y.Me Y.m.es.length Y.me)) V' := fun V V' k hk ho h => by
    have cc : ∀ {b o : Nat} {v : Value}, b ≠ k → V.cell? ⟨b, o, none⟩ = some v → V'.cell? ⟨b, o, none⟩ = some v := fun {b o v} hb h => (cell_heap (p := ⟨b, o, none⟩) (ho b hb)).trans h
    exact ⟨cc (by omega) h.1, cc (by omega) h.2.1, cc (by omega) h.2.2.1, cc (by omega) h.2.2.2.1, cc (by omega) h.2.2.2.2.1, cc (by omega) h.2.2.2.2.2.1, cc (by omega) h.2.2.2.2.2.2.1, cc (by omega) h.2.2.2.2.2.2.2.1, cc (by omega) h.2.2.2.2.2.2.2.2.1, cc (by omega) h.2.2.2.2.2.2.2.2.2⟩
  have HB2 : Hid ((st2 wd (w.heap.size + 1) (.slice A1 g.ns.length k1) (.slice A2 g.es.length k2)).heap[w.heap.size + 1 + 1]? = _) := Lib.hid ((st2_other _ (by omega)).trans B2)
  have HB3 : Hid ((st4 (st2 wd (w.heap.size + 1) (.slice A1 g.ns.length k1) (.slice A2 g.es.length k2)) (w.heap.size + 1 + 1) (.slice X.An X.g.ns.length X.cn) (.slice X.Ae X.g.es.length X.ce) (.slice X.Mn X.m.ns.length X.mn) (.slice X.Me X.m.es.length X.me)).heap[w.heap.size + 1 + 1 + 1]? = _) := Lib.hid ((st4_other _ (by omega)).trans ((st2_other _ (by omega)).trans B3))
  have HK1 := Lib.hid (HK.out.box (w' := st2 wd (w.heap.size + 1) (.slice A1 g.ns.length k1) (.slice A2 g.es.length k2)) B1 sl2 st2_other st2_size)
  have HK2 := Lib.hid (HK1.out.box (w' := st4 (st2 wd (w.heap.size + 1) (.slice A1 g.ns.length k1) (.slice A2 g.es.length k2)) (w.heap.size + 1 + 1) (.slice X.An X.g.ns.length X.cn) (.slice X.Ae X.g.es.length X.ce) (.slice X.Mn X.m.ns.length X.mn) (.slice X.Me X.m.es.length X.me)) HB2.out sl4 st4_other st4_size)
  have HK3 := Lib.hid (HK2.out.box (w' := st4 (st4 (st2 wd (w.heap.size + 1) (.slice A1 g.ns.length k1) (.slice A2 g.es.length k2)) (w.heap.size + 1 + 1) (.slice X.An X.g.ns.length X.cn) (.slice X.Ae X.g.es.length X.ce) (.slice X.Mn X.m.ns.length X.mn) (.slice X.Me X.m.es.length X.me)) (w.heap.size + 1 + 1 + 1) (.slice Y.An Y.g.ns.length Y.cn) (.slice Y.Ae Y.g.es.length Y.ce) (.slice Y.Mn Y.m.ns.length Y.mn) (.slice Y.Me Y.m.es.length Y.me)) HB3.out sl4 st4_other st4_size)
  have HS1 := Lib.hid (far wd (st2 wd (w.heap.size + 1) (.slice A1 g.ns.length k1) (.slice A2 g.es.length k2)) (w.heap.size + 1) (by omega) st2_other HS0.out)
  have HS2 := Lib.hid (far _ (st4 (st2 wd (w.heap.size + 1) (.slice A1 g.ns.length k1) (.slice A2 g.es.length k2)) (w.heap.size + 1 + 1) (.slice X.An X.g.ns.length X.cn) (.slice X.Ae X.g.es.length X.ce) (.slice X.Mn X.m.ns.length X.mn) (.slice X.Me X.m.es.length X.me)) (w.heap.size + 1 + 1) (by omega) st4_other HS1.out)
  have HS3 := Lib.hid (far _ (st4 (st4 (st2 wd (w.heap.size + 1) (.slice A1 g.ns.length k1) (.slice A2 g.es.length k2)) (w.heap.size + 1 + 1) (.slice X.An X.g.ns.length X.cn) (.slice X.Ae X.g.es.length X.ce) (.slice X.Mn X.m.ns.length X.mn) (.slice X.Me X.m.es.length X.me)) (w.heap.size + 1 + 1 + 1) (.slice Y.An Y.g.ns.length Y.cn) (.slice Y.Ae Y.g.es.length Y.ce) (.slice Y.Mn Y.m.ns.length Y.mn) (.slice Y.Me Y.m.es.length Y.me)) (w.heap.size + 1 + 1 + 1) (by omega) st4_other HS2.out)
  have HR1 := Lib.hid ((st4_other (V := st4 (st2 wd (w.heap.size + 1) (.slice A1 g.ns.length k1) (.slice A2 g.es.length k2)) (w.heap.size + 1 + 1) (.slice X.An X.g.ns.length X.cn) (.slice X.Ae X.g.es.length X.ce) (.slice X.Mn X.m.ns.length X.mn) (.slice X.Me X.m.es.length X.me)) (k := w.heap.size + 1 + 1 + 1) (a := .slice Y.An Y.g.ns.length Y.cn) (b := .slice Y.Ae Y.g.es.length Y.ce) (c := .slice Y.Mn Y.m.ns.length Y.mn) (d := .slice Y.Me Y.m.es.length Y.me) (w.heap.size + 1) (by omega)).trans ((st4_other (w.heap.size + 1) (by omega)).trans (st2_at B1)))
  have HR2 := Lib.hid ((st4_other (V := st4 (st2 wd (w.heap.size + 1) (.slice A1 g.ns.length k1) (.slice A2 g.es.length k2)) (w.heap.size + 1 + 1) (.slice X.An X.g.ns.length X.cn) (.slice X.Ae X.g.es.length X.ce) (.slice X.Mn X.m.ns.length X.mn) (.slice X.Me X.m.es.length X.me)) (k := w.heap.size + 1 + 1 + 1) (a := .slice Y.An Y.g.ns.length Y.cn) (b := .slice Y.Ae Y.g.es.length Y.ce) (c := .slice Y.Mn Y.m.ns.length Y.mn) (d := .slice Y.Me Y.m.es.length Y.me) (w.heap.size + 1 + 1) (by omega)).trans (st4_at HB2.out))
  have HR3 := Lib.hid (st4_at (a := .slice Y.An Y.g.ns.length Y.cn) (b := .slice Y.Ae Y.g.es.length Y.ce) (c := .slice Y.Mn Y.m.ns.length Y.mn) (d := .slice Y.Me Y.m.es.length Y.me) HB3.out)
  have HBW := Lib.hid (st4_below (st4_below (st2_below HSD.out.1 (k := w.heap.size + 1) (by omega) (.slice A1 g.ns.length k1) (.slice A2 g.es.length k2)) (k := w.heap.size + 1 + 1) (by omega) (.slice X.An X.g.ns.length X.cn) (.slice X.Ae X.g.es.length X.ce) (.slice X.Mn X.m.ns.length X.mn) (.slice X.Me X.m.es.length X.me)) (k := w.heap.size + 1 + 1 + 1) (by omega) (.slice Y.An Y.g.ns.length Y.cn) (.slice Y.Ae Y.g.es.length Y.ce) (.slice Y.Mn Y.m.ns.length Y.mn) (.slice Y.Me Y.m.es.length Y.me))
  obtain ⟨s0, s1⟩ := cell2 B1
  have fz0 : wd.frozen? ⟨w.heap.size + 1, 0, none⟩ = false := frozen_of_row _ _ _ _ _ B1
  have fz1 : wd.frozen? ⟨w.heap.size + 1, 1, none⟩ = false := frozen_of_row _ _ _ _ _ B1
  clear far sl2 sl4 B1 B2 B3 hga hgb hgc
  refine wpAnyH_ready (rs := [7]) (by kernel_rfl) (by simp) ?_
  refine AllReadyH.cons (oper_at (r := _) rfl) (fun K hK => ?_) AllReadyH.nil
  go_simp
  refine hK.out _ _ (HS1.out) (fun _ => ?_)
  clear hK K
  try simp only [Act.put, List.setIfInBounds_toArray, List.set_cons_zero, List.set_cons_succ]
  clear s0 s1 fz0 fz1
  rw [show (wd.setCell ⟨w.heap.size + 1, 0, none⟩ (.slice A1 g.ns.length k1)).setCell ⟨w.heap.size + 1, 1, none⟩ (.slice A2 g.es.length k2) = st2 wd (w.heap.size + 1) (.slice A1 g.ns.length k1) (.slice A2 g.es.length k2) from rfl]
  generalize st2 wd (w.heap.size + 1) (.slice A1 g.ns.length k1) (.slice A2 g.es.length k2) = V1 at *
  have s0 := cell_of_row _ _ 0 _ _ _ HB2.out
  have s1 := cell_of_row _ _ 1 _ _ _ HB2.out
  have s2 := cell_of_row _ _ 2 _ _ _ HB2.out
  have s3 := cell_of_row _ _ 3 _ _ _ HB2.out
  simp only [List.getElem?_toArray, List.getElem?_cons_zero, List.getElem?_cons_succ] at s0 s1 s2 s3
  have fz0 := frozen_of_row _ _ 0 _ _ HB2.out
  have fz1 := frozen_of_row _ _ 1 _ _ HB2.out
  have fz2 := frozen_of_row _ _ 2 _ _ HB2.out
  have fz3 := frozen_of_row _ _ 3 _ _ HB2.out
  refine wpAnyH_ready (rs := [8]) (by kernel_rfl) (by simp) ?_
  refine AllReadyH.cons (oper_at (r := _) rfl) (fun K hK => ?_) AllReadyH.nil
  go_simp
  refine hK.out _ _ (HS2.out) (fun _ => ?_)
  clear hK K
  try simp only [Act.put, List.setIfInBounds_toArray, List.set_cons_zero, List.set_cons_succ]
  clear s0 s1 s2 s3 fz0 fz1 fz2 fz3
  rw [show (((V1.setCell ⟨w.heap.size + 1 + 1, 0, none⟩ (.slice X.An X.g.ns.length X.cn)).setCell ⟨w.heap.size + 1 + 1, 1, none⟩ (.slice X.Ae X.g.es.length X.ce)).setCell ⟨w.heap.size + 1 + 1, 2, none⟩ (.slice X.Mn X.m.ns.length X.mn)).setCell ⟨w.heap.size + 1 + 1, 3, none⟩ (.slice X.Me X.m.es.length X.me) = st4 V1 (w.heap.size + 1 + 1) (.slice X.An X.g.ns.length X.cn) (.slice X.Ae X.g.es.length X.ce) (.slice X.Mn X.m.ns.length X.mn) (.slice X.Me X.m.es.length X.me) from rfl]
  generalize st4 V1 (w.heap.size + 1 + 1) (.slice X.An X.g.ns.length X.cn) (.slice X.Ae X.g.es.length X.ce) (.slice X.Mn X.m.ns.length X.mn) (.slice X.Me X.m.es.length X.me) = V2 at *
  have s0 := cell_of_row _ _ 0 _ _ _ HB3.out
  have s1 := cell_of_row _ _ 1 _ _ _ HB3.out
  have s2 := cell_of_row _ _ 2 _ _ _ HB3.out
  have s3 := cell_of_row _ _ 3 _ _ _ HB3.out
  simp only [List.getElem?_toArray, List.getElem?_cons_zero, List.getElem?_cons_succ] at s0 s1 s2 s3
  have fz0 := frozen_of_row _ _ 0 _ _ HB3.out
  have fz1 := frozen_of_row _ _ 1 _ _ HB3.out
  have fz2 := frozen_of_row _ _ 2 _ _ HB3.out
  have fz3 := frozen_of_row _ _ 3 _ _ HB3.out
  refine wpAnyH_ready (rs := [9]) (by kernel_rfl) (by simp) ?_
  refine AllReadyH.cons (oper_at (r := _) rfl) (fun K hK => ?_) AllReadyH.nil
  go_simp
  refine hK.out _ _ (HS3.out) (fun _ => ?_)
  clear hK K
  try simp only [Act.put, List.setIfInBounds_toArray, List.set_cons_zero, List.set_cons_succ]
  clear s0 s1 s2 s3 fz0 fz1 fz2 fz3
  rw [show (((V2.setCell ⟨w.heap.size + 1 + 1 + 1, 0, none⟩ (.slice Y.An Y.g.ns.length Y.cn)).setCell ⟨w.heap.size + 1 + 1 + 1, 1, none⟩ (.slice Y.Ae Y.g.es.length Y.ce)).setCell ⟨w.heap.size + 1 + 1 + 1, 2, none⟩ (.slice Y.Mn Y.m.ns.length Y.mn)).setCell ⟨w.heap.size + 1 + 1 + 1, 3, none⟩ (.slice Y.Me Y.m.es.length Y.me) = st4 V2 (w.heap.size + 1 + 1 + 1) (.slice Y.An Y.g.ns.length Y.cn) (.slice Y.Ae Y.g.es.length Y.ce) (.slice Y.Mn Y.m.ns.length Y.mn) (.slice Y.Me Y.m.es.length Y.me) from rfl]
  generalize st4 V2 (w.heap.size + 1 + 1 + 1) (.slice Y.An Y.g.ns.length Y.cn) (.slice Y.Ae Y.g.es.length Y.ce) (.slice Y.Mn Y.m.ns.length Y.mn) (.slice Y.Me Y.m.es.length Y.me) = V3 at *
  refine wpAnyH_done (by kernel_rfl) ?_ _
  refine NoPanic.normal ?_
  obtain ⟨r0, r1⟩ := cell2 HR1.out
  have r2 := cell_of_row _ _ 0 _ _ _ HR2.out
  have r3 := cell_of_row _ _ 1 _ _ _ HR2.out
  have r4 := cell_of_row _ _ 2 _ _ _ HR2.out
  have r5 := cell_of_row _ _ 3 _ _ _ HR2.out
  have r6 := cell_of_row _ _ 0 _ _ _ HR3.out
  have r7 := cell_of_row _ _ 1 _ _ _ HR3.out
  have r8 := cell_of_row _ _ 2 _ _ _ HR3.out
  have r9 := cell_of_row _ _ 3 _ _ _ HR3.out
  simp only [List.getElem?_toArray, List.getElem?_cons_zero, List.getElem?_cons_succ] at r2 r3 r4 r5 r6 r7 r8 r9
  go_wp2_with fail
  refine bodyPost_ret (v := .tuple #[gval A1 g.ns.length k1 A2 g.es.length k2, X.val, Y.val]) (by simp [results, Tryd.results34, go_sem, Ar.val, r0, r1, r2, r3, r4, r5, r6, r7, r8, r9]) rfl ?_
  exact ⟨⟨A1, k1, A2, k2, X, Y, rfl, HK3.out.g, HK3.out.x, HK3.out.y, HKX.out, HKY.out, HLY.out⟩, HBW.out⟩

end Go.Proofs.YtaeelanbkdkppaaDoor

/-
  Kinds of morphisms, as plain data: what MorphismKinds asks; a graph with a further node.
-/
namespace Go.Proofs.YtaeelanbkdkppaaDoor

theorem kin_inj {a b c : Gr} {m n : Mo} (h : MorOk a b m) (k : MorOk b c n) (h1 : injB a b m = true) (h2 : injB b c n = true) : injB a c (compM m n) = true :=
  injB_iff.2 ⟨mor_zero.2 (comp_ok h k), inj_comp h k (injB_iff.1 h1).2 (injB_iff.1 h2).2⟩
theorem kin_first {a b c : Gr} {m n : Mo} (h : MorOk a b m) (h1 : injB a c (compM m n) = true) : injB a b m = true :=
  injB_iff.2 ⟨mor_zero.2 h, inj_first (injB_iff.1 h1).2⟩
theorem kin_sur {a b c : Gr} {m n : Mo} (h : MorOk a b m) (k : MorOk b c n) (h1 : surB a b m = true) (h2 : surB b c n = true) : surB a c (compM m n) = true :=
  surB_iff.2 ⟨mor_zero.2 (comp_ok h k), sur_comp h k (surB_iff.1 h1).2 (surB_iff.1 h2).2⟩
theorem kin_second {a b c : Gr} {m n : Mo} (h : MorOk a b m) (k : MorOk b c n) (h1 : surB a c (compM m n) = true) : surB b c n = true :=
  surB_iff.2 ⟨mor_zero.2 k, sur_second h k (surB_iff.1 h1).2⟩
/-- a graph with a further node -/
def moreG (g : Gr) : Gr := ⟨g.ns ++ [1], g.es⟩
theorem more_ok {a b : Gr} {m : Mo} (h : MorOk a b m) (hl : b.ns.length ≤ 39) : MorOk a (moreG b) m := by
  obtain ⟨v1, v2, v3, v4⟩ := valid_zero h.vb
  have hv : validE (moreG b) = 0 := by
    refine valid_ok (by show (b.ns ++ [1]).length ≤ 40; simp; omega) v2 (fun i hi => ?_) (fun i hi => ?_)
    · show idxB ((b.ns ++ [1]).getD i 0) 100 = true
      have hi' : i < (b.ns ++ [1]).length := hi
      by_cases e : i < b.ns.length
      · rw [List.getD_eq_getElem?_getD, List.getElem?_append_left e, ← List.getD_eq_getElem?_getD]
        exact idxB_iff.2 (v3 _ (getD_mem e))
      · have e : i = b.ns.length := by simp at hi'; omega
        subst e
        rw [List.getD_eq_getElem?_getD, List.getElem?_append_right (Nat.le_refl _), Nat.sub_self]
        decide
    · have hi' : i < b.es.length := hi
      have := edB_iff.1 (v4 (b.es.getD i default) (getD_mem hi'))
      show edB (b.es.getD i default) (b.ns ++ [1]).length = true
      refine edB_iff.2 ?_
      have e : (b.ns ++ [1]).length = b.ns.length + 1 := by simp
      rw [e]
      omega
  refine ⟨h.va, hv, h.ln, h.le, fun i hi => ?_, fun i hi => h.ed i hi⟩
  obtain ⟨⟨h1, h2⟩, h3⟩ := h.nd i hi
  show (0 ≤ m.ns.getD i 0 ∧ m.ns.getD i 0 < ((b.ns ++ [1]).length : Int)) ∧ (b.ns ++ [1]).getD (m.ns.getD i 0).toNat 0 = a.ns.getD i 0
  refine ⟨⟨h1, by rw [List.length_append]; show _ < ((b.ns.length + 1 : Nat) : Int); omega⟩, ?_⟩
  rw [List.getD_eq_getElem?_getD, List.getElem?_append_left (by omega), ← List.getD_eq_getElem?_getD]
  exact h3

end Go.Proofs.YtaeelanbkdkppaaDoor

/-
  MorphismAssociative. Printed by mkl6.py.
-/
namespace Go.Proofs.YtaeelanbkdkppaaDoor
open Go.RowKit Go.Shelf

theorem compose_gives {a b c : Gr} {m n : Mo} (h : MorOk a b m) (k : MorOk b c n) (An : Option Addr) (cn : Nat) (Ae : Option Addr) (ce : Nat) (Bn : Option Addr) (dn : Nat) (Be : Option Addr) (de : Nat) (Cn : Option Addr) (kn : Nat) (Ce : Option Addr) (ke : Nat) (Mn : Option Addr) (mn : Nat) (Me : Option Addr) (me : Nat) (Nn : Option Addr) (nn : Nat) (Ne : Option Addr) (ne : Nat) (u : World) (hTa : GrAt u An cn Ae ce a) (hTb : GrAt u Bn dn Be de b) (hTc : GrAt u Cn kn Ce ke c) (r1 : Ints u u.heap.size Mn m.ns) (r2 : Ints u u.heap.size Me m.es) (s1 : Ints u u.heap.size Nn n.ns) (s2 : Ints u u.heap.size Ne n.es) :
    GivesM 25 #[gval An a.ns.length cn Ae a.es.length ce, gval Bn b.ns.length dn Be b.es.length de, gval Cn c.ns.length kn Ce c.es.length ke, gval Mn m.ns.length mn Me m.es.length me, gval Nn n.ns.length nn Ne n.es.length ne] 0 (compM m n) u := by
  obtain ⟨v1, v2, _⟩ := valid_zero h.va
  obtain ⟨v3, v4, _⟩ := valid_zero k.va
  have h1 := h.ln
  have h2 := h.le
  have h3 := k.ln
  have h4 := k.le
  have e : cmpE a b c m n = 0 := by unfold cmpE; rw [if_neg (fun q => q (mor_zero.2 h))]; exact mor_zero.2 k
  have e2 : cmpR a b c m n = compM m n := by unfold cmpR; rw [if_pos e]
  have q := composeM_any a b c m n An cn Ae ce Bn dn Be de Cn kn Ce ke Mn mn Me me Nn nn Ne ne u hTa hTb hTc r1 r2 (by omega) (by omega) s1 s2 (by omega) (by omega)
  rw [e, e2] at q
  exact givesM q
end Go.Proofs.YtaeelanbkdkppaaDoor

/-
  The arguments of the laws of morphisms, opened; the listed table.
-/
namespace Go.Proofs.YtaeelanbkdkppaaDoor
open Go.RowKit

/-- what the rows list -/
abbrev laidL : List (String × DataW Unit) := [("math/bits.deBruijn64tab", Rows.laid_math_bits_deBruijn64tab)]
theorem tab_of_laid {W : World} (h : laidMetH Tryd.prog laidL W) : TabW W ∧ 0 < W.heap.size := by
  rw [MakeChecks.laidMetH_plain _ _ _ (by kernel_rfl)] at h
  have hg : Tryd.prog.globalNamed "math/bits.deBruijn64tab" = some 0 := by kernel_rfl
  have e : (Rows.laid_math_bits_deBruijn64tab : DataW Unit) = Lib.tabData .u8 (List.map (fun n : Nat => (n : Int)) Lib.deBruijn64tab) := rfl
  unfold laidL at h
  rw [e] at h
  have t := Lib.tabIs_of_head (t := 151) hg (by kernel_rfl) Tryd.underlying151 Tryd.underlying5 (by kernel_rfl) (by kernel_rfl) h
  have hc : ∀ j, j < 64 → W.cell? ⟨0, j, none⟩ = some (.int .u8 (Lib.deBruijn64tab.getD j 0)) := fun j hj => by
    have hl : Lib.deBruijn64tab.length = 64 := rfl
    rw [t.cell hg j (by simp [hl, hj])]
    have h1 : Lib.deBruijn64tab[j]? = some (Lib.deBruijn64tab[j]'(by omega)) := List.getElem?_eq_getElem (by omega)
    simp [List.getD, h1]
  exact ⟨hc, World.block_lt_of_cell? _ _ (hc 0 (by decide))⟩
theorem met (os : Os) (args : Array Value) : laidMetH Tryd.prog laidL ((World.laidAll Tryd.prog os laidL).forCall (fun _ _ => 0) ⟨#[], args, []⟩).memory := by
  rw [MakeChecks.laidMetH_plain _ _ _ (by kernel_rfl)]
  exact laidMet_laidAll _ (by kernel_rfl) (by kernel_rfl)
theorem shaped (os : Os) (args : Array Value) : ((World.laidAll Tryd.prog os laidL).forCall (fun _ _ => 0) ⟨#[], args, []⟩).Shaped Tryd.prog := World.shaped_of_ZipB (by kernel_rfl) (by kernel_rfl)

section
open Go.ChangeShapes Go.WideShapes Go.Deep
variable {H : Type} {enc : TypeId × Value → H} {W : World} {fuel : Nat} {cs : List Value} {x : DataW H × List MemPlace}
end

end Go.Proofs.YtaeelanbkdkppaaDoor

