import Derived.Test.YtaeelanbkdkppaaDoorV07
import Derived.Test.YtaeelanbkdkppaaDoorV05
import Derived.Test.YtaeelanbkdkppaaDoorV01
import Derived.Test.YtaeelanbkdkppaaDoorV06
import Derived.Maps.AppendAt
import Derived.Sort.OwnSortedInts
/-
  morphisms: all of them, handed over one by one.
-/
namespace Go.Proofs.YtaeelanbkdkppaaDoor
open Go.RowKit Go.Shelf

attribute [local go_sem] Oper.semAt_some

set_option maxHeartbeats 1000000 in
theorem nodeMaps_any (v1 v2 v3 v4 : Value) (w : World) : Calls Tryd.prog 69 #[.agg #[v1, v2], .agg #[v3, v4]] w fun e w' => e = .returned (.func (.func 77) #[] #[.pointer (some ⟨w.heap.size, 0, none⟩), .pointer (some ⟨w.heap.size + 1, 0, none⟩)]) ∧
    w' = (w.alloc (.cells #[v1, v2] 25)).alloc (.cells #[v3, v4] 25) := by
  go_enter Tryd.func69, Tryd.ntmps69
  go_wp2
  go_ret
  exact ⟨rfl, rfl⟩
set_option maxHeartbeats 1000000 in
theorem morphisms_any (v1 v2 v3 v4 : Value) (w : World) : Calls Tryd.prog 56 #[.agg #[v1, v2], .agg #[v3, v4]] w fun e w' => e = .returned (.func (.func 68) #[] #[.pointer (some ⟨w.heap.size, 0, none⟩), .pointer (some ⟨w.heap.size + 1, 0, none⟩)]) ∧
    w' = (w.alloc (.cells #[v1, v2] 25)).alloc (.cells #[v3, v4] 25) := by
  go_enter Tryd.func56, Tryd.ntmps56
  go_wp2
  go_ret
  exact ⟨rfl, rfl⟩

/-- what the rounds have, since W1 with the blocks H0 -/
def MI (W1 : World) (H0 : Blks) (Jp : Blks → World → Prop) (Hj : Blks) (V : World) : Prop :=
  Jp Hj V ∧ (∀ b, Hj b → H0 b ∨ W1.heap.size ≤ b) ∧ W1.heap.size ≤ V.heap.size ∧ ∀ b, b < W1.heap.size → ¬ H0 b → V.heap[b]? = W1.heap[b]?
theorem MI.foot {W1 : World} {H0 : Blks} {Jp : Blks → World → Prop} {B : Nat} (hJ : Foot (fun b => b < B) Jp) (hB : B ≤ W1.heap.size) : Foot (fun b => b < W1.heap.size) (MI W1 H0 Jp) := by
  rintro Hh V ⟨h1, h2, h3, h4⟩
  exact ⟨fun b hb => hJ.lt h1 hb, fun V' hs hb => ⟨hJ.keep h1 hs fun b h => hb b (h.imp id fun h => by omega), h2, by omega, fun b hl hn => (hb b (.inr hl)).trans (h4 b hl hn)⟩⟩
theorem MI.trans {W1 U w3 W : World} {H0 Hj H2 : Blks} {Jp : Blks → World → Prop} (h1 : ∀ b, Hj b → H0 b ∨ W1.heap.size ≤ b) (h2 : W1.heap.size ≤ U.heap.size) (h3 : ∀ b, b < W1.heap.size → ¬ H0 b → U.heap[b]? = W1.heap[b]?) (hb : Below U.heap.size U w3) (h : MI w3 Hj Jp H2 W) : MI W1 H0 Jp H2 W := by
  obtain ⟨g1, g2, g3, g4⟩ := h
  have hs := hb.size
  refine ⟨g1, fun b hb2 => (g2 b hb2).elim (h1 b) (fun h => .inr (by omega)), by omega, fun b hl hn => ?_⟩
  exact (g4 b (by omega) (fun h => (h1 b h).elim hn (fun h => by omega))).trans ((hb.block b (by omega)).trans (h3 b hl hn))
/-- what this iterator hands over -/
def RMor (B : Nat) (m : Mo) (G : Blks) (V : World) (vs : Array Value) : Prop := ∃ v u, vs = #[.agg #[v, u]] ∧ InG G V v m.ns ∧ InG G V u m.es ∧ ∀ b, G b → B ≤ b
theorem reads_blocks {α : Type} {E : El α} {w w' : World} {A : Option Addr} {xs : List α} (h : Reads E w w.heap.size A xs) (hs : w.heap.size ≤ w'.heap.size) (hb : ∀ b, b < w.heap.size → w'.heap[b]? = w.heap[b]?) : Reads E w' w'.heap.size A xs := by
  rcases h with h | ⟨b, off, h1, h2, h3⟩
  · exact .inl h
  · exact .inr ⟨b, off, h1, by omega, fun i x hx j u hu => (cell_heap (p := ⟨b, off + i * E.size + j, none⟩) (hb b h2)).trans (h3 i x hx j u hu)⟩
theorem GrAt.blocks {w w' : World} {An : Option Addr} {cn : Nat} {Ae : Option Addr} {ce : Nat} {g : Gr} (h : GrAt w An cn Ae ce g) (hs : w.heap.size ≤ w'.heap.size) (hb : ∀ b, b < w.heap.size → w'.heap[b]? = w.heap[b]?) : GrAt w' An cn Ae ce g :=
  ⟨reads_blocks h.ns hs hb, reads_blocks h.es hs hb, h.cn, h.ce⟩
/-- the two ways a round can end, as one -/
theorem turn_bo {HG : Blks} {V V' : World} {J Jx : Blks → World → Prop} {e : Ending} (h : Turn HG V J Jx e V') : ∃ bo : Bool, e = .returned (.bool bo) ∧ Keeps HG V V' ∧ ∃ H', (∀ b, H' b → HG b ∨ V.heap.size ≤ b) ∧ (bo = true → J H' V') ∧ (bo = false → Jx H' V') := by
  obtain ⟨hk, H', hg, (⟨rfl, hj⟩ | ⟨rfl, hj⟩)⟩ := h
  · exact ⟨true, rfl, hk, H', hg, fun _ => hj, fun h => by cases h⟩
  · exact ⟨false, rfl, hk, H', hg, fun h => (by cases h), fun _ => hj⟩
/-- behind the clone of the nodes' images: the round that takes the morphism -/
theorem mor_mid {l B Bw yb : Nat} {H G2 : Blks} {x es : List Int} {u v2 : Value} {U w4 : World} {R : Blks → Ending → World → Prop} {J : Blks → World → Prop} (hJ : Foot (fun b => b < B) J) (hj : J H U) (hB : B ≤ U.heap.size) (hBw : Bw ≤ U.heap.size) (hv2 : InG G2 U v2 es) (hg2 : ∀ b, G2 b → ¬ H b ∧ b < U.heap.size) (hgw : ∀ b, G2 b → Bw ≤ b)
    (hyb : Boxed U yb 95 (.func (.yield l) #[] #[])) (ho : OwnI w4 U.drew.heap.size u x) (hb : Below U.drew.heap.size U.drew w4)
    (hY : ∀ G, J H w4 → RMor Bw ⟨x, es⟩ G w4 #[.agg #[u, v2]] → (∀ b, G b → ¬ H b ∧ b < w4.heap.size) → YieldAt Fence.wide 0 Tryd.prog l #[.agg #[u, v2]] w4 (R G)) :
    w4.cell? ⟨yb, 0, none⟩ = some (.func (.yield l) #[] #[]) ∧ YieldAt Fence.wide 5 Tryd.prog l #[.agg #[u, v2]] w4 (R fun b => u.ownBlock = some b ∨ G2 b) := by
  have hg := OwnE.lt ho
  have e : U.drew.heap.size = U.heap.size := rfl
  rw [e] at hg
  have hs : U.heap.size ≤ w4.heap.size := hb.size
  have hbl : ∀ b, b < U.heap.size → w4.heap[b]? = U.heap[b]? := fun b h => hb.block b h
  refine ⟨cell_of_row _ _ _ _ _ _ ((hbl yb hyb.lt).trans hyb), YieldAt.anyDepth rfl 5 (hY _ (hJ.keep hj hs fun b h => hbl b (h.elim (hJ.lt hj) (fun h => by omega))) ⟨u, v2, rfl, (InG.own ho).mono fun b h => .inl h, (hv2.up hs fun b _ h => hbl b h).mono fun b h => .inr h, fun b h => ?_⟩ fun b h => ?_)⟩
  · rcases h with h | h
    · have := (hg b h).1; omega
    · exact hgw b h
  · rcases h with h | h
    · exact ⟨fun h2 => by have := hJ.lt hj h2; have := (hg b h).1; omega, (hg b h).2⟩
    · exact ⟨(hg2 b h).1, by have := (hg2 b h).2; omega⟩
/-- a round's end -/
theorem mor_end {w3 U w4 w5 : World} {Hj H2 H5 G2 : Blks} {u : Value} {x : List Int} {Jq : Blks → World → Prop} (j2 : ∀ b, H2 b → Hj b ∨ w3.heap.size ≤ b) (j3 : w3.heap.size ≤ U.heap.size) (j4 : ∀ b, b < w3.heap.size → ¬ Hj b → U.heap[b]? = w3.heap[b]?) (hg2 : ∀ b, G2 b → w3.heap.size ≤ b)
    (ho : OwnI w4 U.drew.heap.size u x) (hb : Below U.drew.heap.size U.drew w4) (hk5 : Keeps (fun b => H2 b ∨ u.ownBlock = some b ∨ G2 b) w4 w5) (hg5 : ∀ b, H5 b → (H2 b ∨ u.ownBlock = some b ∨ G2 b) ∨ w4.heap.size ≤ b) (hj5 : Jq H5 w5) :
    Keeps (fun b => H2 b ∨ G2 b) U w5 ∧ ∃ H', (∀ b, H' b → (H2 b ∨ G2 b) ∨ U.heap.size ≤ b) ∧ MI w3 Hj Jq H' w5 := by
  have hg := OwnE.lt ho
  have e : U.drew.heap.size = U.heap.size := rfl
  rw [e] at hg
  have hs : U.heap.size ≤ w4.heap.size := hb.size
  have hk : Keeps (fun b => H2 b ∨ u.ownBlock = some b ∨ G2 b) U w5 := ((keeps_drew _ U).trans (Keeps.of_below' _ hb) fun _ _ h => h).trans hk5 fun _ _ h => h
  refine ⟨hk.mono fun i hi h => ?_, H5, fun b h => ?_, hj5, fun b h => ?_, by have := hk.size; omega, fun b h1 h2 => ?_⟩
  · rcases h with h | h | h
    · exact .inl h
    · have := (hg i h).1; omega
    · exact .inr h
  · rcases hg5 b h with (h | h | h) | h
    · exact .inl (.inl h)
    · exact .inr (hg b h).1
    · exact .inl (.inr h)
    · exact .inr (by omega)
  · rcases hg5 b h with (h | h | h) | h
    · exact j2 b h
    · exact .inr (by have := (hg b h).1; omega)
    · exact .inr (hg2 b h)
    · exact .inr (by omega)
  · refine (hk.block b (by omega) fun h => ?_).trans (j4 b h1 h2)
    rcases h with h | h | h
    · exact (j2 b h).elim h2 (fun h => by omega)
    · have := (hg b h).1; omega
    · have := hg2 b h; omega
def morL (a b : Gr) (pre : List (List Int)) : List Mo := pre.flatMap fun l => (comb (imLs a b l) []).map (Mo.mk l)
theorem morL_snoc (a b : Gr) (pre : List (List Int)) (l : List Int) : morL a b (pre ++ [l]) = morL a b pre ++ (comb (imLs a b l) []).map (Mo.mk l) := by simp [morL]

theorem morL_pre {a b : Gr} {pre : List (List Int)} {x : List Int} {pre2 : List (List Int)} {es : List Int} (h : pre ++ [x] <+: solL a.ns.length (linksF b a.es) (firstC a b)) (h2 : pre2 ++ [es] <+: comb (imLs a b x) []) : (morL a b pre ++ pre2.map (Mo.mk x)) ++ [⟨x, es⟩] <+: allP a b := by
  obtain ⟨t, ht⟩ := h
  obtain ⟨t2, ht2⟩ := h2
  refine ⟨t2.map (Mo.mk x) ++ morL a b t, ?_⟩
  unfold allP
  rw [← ht]
  show _ = morL a b (pre ++ [x] ++ t)
  simp only [morL, List.flatMap_append, List.flatMap_cons, List.flatMap_nil, ← ht2, List.map_append, List.map_cons, List.map_nil, List.append_assoc, List.append_nil]

set_option maxRecDepth 100000 in
set_option maxHeartbeats 4000000 in
theorem morphisms_visits (a b : Gr) (ha : validE a = 0) (hb : validE b = 0) (An : Option Addr) (cn : Nat) (Ae : Option Addr) (ce : Nat) (Bn : Option Addr) (dn : Nat) (Be : Option Addr) (de : Nat) (ab bb : Nat) (w0 w : World) (h00 : 0 < w0.heap.size) (hT : TabW w0) (hTa : GrAt w0 An cn Ae ce a) (hTb : GrAt w0 Bn dn Be de b) (hw : Below w0.heap.size w0 w)
    (hab : w.heap[ab]? = some (.cells #[.slice An a.ns.length cn, .slice Ae a.es.length ce] 25 (0, 0))) (hbb : w.heap[bb]? = some (.cells #[.slice Bn b.ns.length dn, .slice Be b.es.length de] 25 (0, 0))) :
    Visits Tryd.prog 68 #[] #[.pointer (some ⟨ab, 0, none⟩), .pointer (some ⟨bb, 0, none⟩)] (allP a b) (RMor w.heap.size) (fun k => k < w0.heap.size ∨ k = ab ∨ k = bb) w := by
  intro l J Jx H W hW hJ hJx hO hY h0
  have hlab := heap_lt hab
  have hlbb := heap_lt hbb
  have hsw := hw.size
  have hsW := hW.size
  have ha1 := (hW.block ab hlab).trans hab
  have hb1 := (hW.block bb hlbb).trans hbb
  have HWW : Hid (Below w0.heap.size w0 W) := Lib.hid (hw.trans (hW.mono hsw))
  have HLT := Lib.hid (fun b (hb : H b) => (hJ []).lt h0 hb)
  have HO := Lib.hid hO
  have HY := Lib.hid hY
  have HJ := Lib.hid hJ
  have HJX := Lib.hid hJx
  have HJ0 := Lib.hid h0
  have HA1 := Lib.hid ha1
  have HB1 := Lib.hid hb1
  have HVA := Lib.hid ha
  have HVB := Lib.hid hb
  have HTA := Lib.hid hTa
  have HTB := Lib.hid hTb
  have HT := Lib.hid hT
  clear hJ hJx hO hY h0 hab hbb hw hW ha hb hTa hTb hT
  obtain ⟨a1, a2⟩ := cell2 ha1
  obtain ⟨b1, b2⟩ := cell2 hb1
  have hneA : ab ≠ W.heap.size := by omega
  have hneB : bb ≠ W.heap.size := by omega
  have hlab1 : ab < W.heap.size := by omega
  have hlbb1 : bb < W.heap.size := by omega
  clear ha1 hb1
  refine (callsIn_wide (n := 6)).1 ?_
  refine callsIn_of_wp_marks Tryd.func68 rfl trivial ?_ rfl
  simp only [Tryd.ntmps68, List.size_toArray, List.length_cons, List.length_nil, Nat.reduceAdd, Nat.reduceSub, Array.replicate_succ, Array.replicate_zero, List.push_toArray, List.append_toArray, List.nil_append, List.cons_append]
  gi_upto_region 1 with fail
  generalize hW0 : W.alloc _ = W0
  have hB0 : Below W.heap.size W W0 := by rw [← hW0]; exact (Below.refl _ _).alloc (Nat.le_refl _) _
  have y0 : Boxed W0 W.heap.size 95 (.func (.yield l) #[] #[]) := by rw [← hW0]; exact Boxed.new W _ _
  have hs0 : W0.heap.size = W.heap.size + 1 := by rw [← hW0]; simp
  clear hW0 a1 a2 b1 b2
  obtain ⟨a1, a2⟩ := cell2 (heap_up hB0 HA1.out)
  obtain ⟨b1, b2⟩ := cell2 (heap_up hB0 HB1.out)
  have HNM := Lib.hid (nodeMaps_any (.slice An a.ns.length cn) (.slice Ae a.es.length ce) (.slice Bn b.ns.length dn) (.slice Be b.es.length de) W0)
  have HB0 := Lib.hid hB0
  have HY0 := Lib.hid y0
  have HS0 := Lib.hid hs0
  clear hB0 y0 hs0
  gi_wp2_with (refine ⟨trivial, ?_⟩; gi_at_call 69; refine (callsIn_wide.2 HNM.out).mono ?_; rintro e w1 ⟨rfl, hw1⟩)
  obtain ⟨W1, hW1⟩ : ∃ W1, W1 = w1 := ⟨_, rfl⟩
  rw [← hw1, ← hW1]
  have s0 := HS0.out
  have hb1 : Below W0.heap.size W0 W1 := by rw [hW1, hw1]; exact ((Below.refl _ _).alloc (Nat.le_refl _) _).alloc (by simp) _
  have ga : W1.heap[W0.heap.size]? = some (.cells #[.slice An a.ns.length cn, .slice Ae a.es.length ce] 25 (0, 0)) := by rw [hW1, hw1]; exact heap_two _ _ _
  have gb : W1.heap[W0.heap.size + 1]? = some (.cells #[.slice Bn b.ns.length dn, .slice Be b.es.length de] 25 (0, 0)) := by rw [hW1, hw1]; exact heap_two' _ _ _
  have hbW : Below W.heap.size W W1 := HB0.out.trans (hb1.mono (by omega))
  have hb00 : Below w0.heap.size w0 W1 := HWW.out.trans (hbW.mono (by omega))
  have hsz1 := hbW.size
  have hy1 : Boxed W1 W.heap.size 95 (.func (.yield l) #[] #[]) := heap_up hb1 HY0.out
  clear hW1 hw1 a1 a2 b1 b2
  have hNV := nodeMaps_visits a b HVA.out HVB.out An cn Ae ce Bn dn Be de W0.heap.size (W0.heap.size + 1) W1 (by omega) (HT.out.up (hb00.block 0 h00)) (HTA.out.up hb00) (HTB.out.up hb00) ga gb
  have HBW := Lib.hid hbW
  have HY1 := Lib.hid hy1
  have HB00 := Lib.hid hb00
  have hH0 : ¬ H 0 := HO.out 0 (.inl h00)
  refine wpIn_visits (gf := 77) (ba := #[]) (lb := #[.pointer (some ⟨W0.heap.size, 0, none⟩), .pointer (some ⟨W0.heap.size + 1, 0, none⟩)]) rfl (enters_of Tryd.func77 (by kernel_rfl) rfl) hNV (fun x G V vs h => by obtain ⟨v, h, _⟩ := h; rw [h]; rfl)
    (fun pre Hj V => MI W1 H (J (morL a b pre)) Hj V) (fun code Hj V => IsRet code ∧ MI W1 H Jx Hj V) ?fI ?fX H ⟨(HJ.out _).below HJ0.out (fun _ h => h) hbW, fun b h => .inl h, Nat.le_refl _, fun _ _ _ => rfl⟩ ?hO ?round ?done ?stop
  case fI => exact fun pre => MI.foot (HJ.out _) hsz1
  case fX => exact fun _ => (MI.foot HJX.out hsz1).pure _
  case hO =>
    rintro b rfl
    exact ⟨hH0, by omega⟩
  case round =>
    rintro l1 pre x Hj G vs V K hl ⟨r0, hr0⟩ hHl hGl ⟨i1, i2, i3, i4⟩ hx ⟨v, rfl, ⟨nA, nc, rfl, hn1, hn2, hn3⟩, hGB⟩ hGa hK
    dsimp only
    gi_wp2
    refine hK _ _ (keeps_alloc _ _ _) fun r => ?_
    have hlV : l1 < V.heap.size := heap_lt hr0
    have hu : ∀ b, b < V.heap.size → b ≠ l1 → ((V.alloc (.cells #[.slice nA x.length nc] 22)).putObj l1 (.loop r)).heap[b]? = V.heap[b]? := fun b h1 h2 => (World.putObj_heap_other h2).trans (Below.heap_alloc V _ b h1)
    have hnb : Boxed ((V.alloc (.cells #[.slice nA x.length nc] 22)).putObj l1 (.loop r)) V.heap.size 22 (.slice nA x.length nc) := (World.putObj_heap_other (by omega)).trans (heap_alloc_new _ _)
    have hll : ((V.alloc (.cells #[.slice nA x.length nc] 22)).putObj l1 (.loop r)).heap[l1]? = some (.loop r) := World.putObj_heap_same (by simp; omega)
    have hsU : ((V.alloc (.cells #[.slice nA x.length nc] 22)).putObj l1 (.loop r)).heap.size = V.heap.size + 1 := by simp
    generalize (V.alloc (.cells #[.slice nA x.length nc] 22)).putObj l1 (.loop r) = U at *
    have oth : ∀ b, b < W1.heap.size → ¬ H b → U.heap[b]? = W1.heap[b]? := fun b h1 h2 => (hu b (by omega) (by omega)).trans (i4 b h1 h2)
    have ka : U.heap[ab]? = some (.cells #[.slice An a.ns.length cn, .slice Ae a.es.length ce] 25 (0, 0)) := (oth ab (by omega) (HO.out ab (.inr (.inl rfl)))).trans ((HBW.out.block ab hlab1).trans HA1.out)
    have kb : U.heap[bb]? = some (.cells #[.slice Bn b.ns.length dn, .slice Be b.es.length de] 25 (0, 0)) := (oth bb (by omega) (HO.out bb (.inr (.inr rfl)))).trans ((HBW.out.block bb hlbb1).trans HB1.out)
    have ky : Boxed U W.heap.size 95 (.func (.yield l) #[] #[]) := (oth _ HY1.out.lt (fun h => by have := HLT.out _ h; omega)).trans HY1.out
    have k0 : ∀ b, b < w0.heap.size → U.heap[b]? = w0.heap[b]? := fun b h => (oth b (by omega) (HO.out b (.inl h))).trans (HB00.out.block b h)
    have hv : InG G U (.slice nA x.length nc) x := InG.up (V := V) ⟨nA, nc, rfl, hn1, hn2, hn3⟩ (by omega) fun b h1 h2 => hu b h2 (fun e => hGl (e ▸ h1))
    have hI : Ints U U.heap.size nA x := by
      obtain ⟨A, c, e, h1, _⟩ := hv.isI
      injection e with e1 _ _
      subst e1
      exact h1
    have hxl : x.length = a.ns.length := ((sol_iff HVA.out HVB.out).1 ((mem_solL (first_small HVB.out)).1 (pre_mem hx))).1
    have HEM := Lib.hid (edgeMaps_any a b HVA.out HVB.out x hxl An cn Ae ce Bn dn Be de nA nc U (HTA.out.blocks (by omega) k0) (HTB.out.blocks (by omega) k0) hI)
    have HIL : Hid ((imLs a b x).length ≤ 1000 ∧ ∀ q ∈ imLs a b x, q.length ≤ 1000) := by
      refine Lib.hid ⟨by unfold imLs; simp; have := (valid_zero HVA.out).2.1; omega, fun q hq => ?_⟩
      obtain ⟨j, _, rfl⟩ := List.mem_map.1 hq
      have := imLk_len a b x j b.es.length
      have h2 := (valid_zero HVB.out).2.1
      exact Nat.le_trans this (by omega)
    have HMEM : Hid (∀ es pre2, pre2 ++ [es] <+: comb (imLs a b x) [] → (morL a b pre ++ pre2.map (Mo.mk x)) ++ [⟨x, es⟩] <+: allP a b) := Lib.hid fun es pre2 he => morL_pre hx he
    obtain ⟨a1, a2⟩ := cell2 ka
    obtain ⟨b1, b2⟩ := cell2 kb
    have n1 := hnb.cell
    have HNB := Lib.hid hnb
    have HKY := Lib.hid ky
    have HV := Lib.hid hv
    have HLL := Lib.hid hll
    have HSU := Lib.hid hsU
    have HOTH := Lib.hid oth
    have HU := Lib.hid hu
    have HI1 := Lib.hid i1
    have HI2 := Lib.hid i2
    have HI3 := Lib.hid i3
    have HHl := Lib.hid hHl
    have HGl := Lib.hid hGl
    have HGA := Lib.hid hGa
    have HGB := Lib.hid hGB
    have HNR := Lib.hid (show x.length ≤ nc ∧ nc ≤ maxLen from ⟨hn1, hn2⟩)
    have HXL := Lib.hid hxl
    have HLV := Lib.hid hlV
    have HL1 := Lib.hid hl
    clear hK hr0 hHl hGl i1 i2 i3 i4 hx hn1 hn2 hn3 hGB hGa hu hnb hll hsU oth ka kb ky k0 hv hI hxl hl hlV
    gi_wp2_with (refine ⟨trivial, ?_⟩; gi_at_call 70; refine (CallsIn.inRound l1 (callsIn_wide.2 HEM.out)).mono ?_; rintro e w3 ⟨im, cap, A, rfl, him, hrw, hb3⟩)
    have hs3 := hb3.size
    have hsU := HSU.out
    have hbl : ∀ k, k < V.heap.size → k ≠ l1 → w3.heap[k]? = V.heap[k]? := fun k h1 h2 => (hb3.block k (by omega)).trans (HU.out k h1 h2)
    have hj3 : J (morL a b pre) Hj w3 := (HJ.out _).keep HI1.out (by omega) fun k hk => hk.elim (fun h => hbl k ((HJ.out _).lt HI1.out h) (fun e => HHl.out (e ▸ h))) (fun h => hbl k (by have := HI3.out; omega) (by have := HL1.out; omega))
    have hjV : ∀ k, Hj k → k < V.heap.size := fun k h => (HJ.out _).lt HI1.out h
    have hl3 : w3.heap[l1]? = some (.loop r) := (hb3.block l1 (by have := HLV.out; omega)).trans HLL.out
    have hEV := edgeMaps_visits (imLs a b x) HIL.out.1 HIL.out.2 im cap A (fun k => U.heap.size ≤ k ∧ k < w3.heap.size) w3 him (fun k h => h.2) hrw
    have HY3 := Lib.hid (heap_up hb3 HKY.out)
    have HN3 := Lib.hid (heap_up hb3 HNB.out)
    have HV3 := Lib.hid (HV.out.up hs3 fun k _ h => hb3.block k h)
    have HB3 := Lib.hid hb3
    have HJV := Lib.hid hjV
    have HWU : Hid (W.heap.size ≤ w3.heap.size) := Lib.hid (by have := HI3.out; omega)
    have hyl : W.heap.size < w3.heap.size := heap_lt HY3.out
    have hnl : V.heap.size < w3.heap.size := heap_lt HN3.out
    have HNY : Hid (¬ Hj W.heap.size ∧ ¬ Hj V.heap.size ∧ ∀ k, G k → ¬ Hj k) := Lib.hid ⟨fun h => (HI2.out _ h).elim (fun h => by have := HLT.out _ h; omega) (fun h => by have := heap_lt HY1.out; omega), fun h => by have := hjV _ h; omega, fun k h => (HGA.out k h).1⟩
    clear hb3 him hrw hbl a1 a2 b1 b2 n1
    refine wpIn_visits_in (l₀ := l1) ⟨_, hl3⟩ (gf := 85) (ba := #[]) (lb := #[.pointer (some ⟨im, 0, none⟩)]) rfl (enters_of Tryd.func85 (by kernel_rfl) rfl) hEV (fun x G V vs h => by obtain ⟨v, h, _⟩ := h; rw [h]; rfl)
      (fun pre2 H2 V2 => MI w3 Hj (J (morL a b pre ++ pre2.map (Mo.mk x))) H2 V2) (fun code H2 V2 => IsRet code ∧ MI w3 Hj Jx H2 V2) ?gI ?gX Hj ⟨by simpa using hj3, fun b h => .inl h, Nat.le_refl _, fun _ _ _ => rfl⟩ ?gO ?round2 ?done2 ?stop2
    case gI => exact fun pre2 => MI.foot (HJ.out _) HWU.out
    case gX => exact fun _ => (MI.foot HJX.out HWU.out).pure _
    case gO => exact fun k h => ⟨fun h2 => by have := hjV k h2; omega, h.2⟩
    case round2 =>
      rintro l2 pre2 es H2 G2 vs2 V2 K2 hl2 ⟨r2, hr2⟩ hHl2 hGl2 ⟨j1, j2, j3, j4⟩ hx2 ⟨v2, rfl, ⟨eA, ec, rfl, en1, en2, en3⟩, hGB2⟩ hGa2 hK2
      have hv2 : InG G2 V2 (.slice eA es.length ec) es := ⟨eA, ec, rfl, en1, en2, en3⟩
      clear en1 en2 en3
      dsimp only
      gi_wp2
      refine hK2 _ _ (Keeps.refl _ _) fun r3 => ?_
      have hlV2 : l2 < V2.heap.size := heap_lt hr2
      have hu2 : ∀ k, k ≠ l2 → (V2.putObj l2 (.loop r3)).heap[k]? = V2.heap[k]? := fun k h2 => World.putObj_heap_other h2
      have hsz2 : V2.heap.size = (V2.putObj l2 (.loop r3)).heap.size := by simp
      rw [hsz2] at j3 ⊢
      rw [hsz2] at hGa2
      have k1 : J (morL a b pre ++ pre2.map (Mo.mk x)) H2 (V2.putObj l2 (.loop r3)) := (HJ.out _).keep j1 (by simp) fun k hk => hu2 k (fun e => hk.elim (fun h => hHl2 (e ▸ h)) (fun h => by have := HWU.out; omega))
      have k4 : ∀ k, k < w3.heap.size → ¬ Hj k → (V2.putObj l2 (.loop r3)).heap[k]? = w3.heap[k]? := fun k h1 h2 => (hu2 k (by omega)).trans (j4 k h1 h2)
      have kv2 : InG G2 (V2.putObj l2 (.loop r3)) (.slice eA es.length ec) es := hv2.up (by simp) fun k h1 h2 => hu2 k (fun e => hGl2 (e ▸ h1))
      generalize V2.putObj l2 (.loop r3) = U2 at *
      have ky : Boxed U2 W.heap.size 95 (.func (.yield l) #[] #[]) := (k4 _ hyl HNY.out.1).trans HY3.out
      have kn : Boxed U2 V.heap.size 22 (.slice nA x.length nc) := (k4 _ hnl HNY.out.2.1).trans HN3.out
      have kI : Ints U2 U2.heap.size nA x := by
        have h3 : InG G U2 (.slice nA x.length nc) x := HV3.out.up (by omega) fun k h1 h2 => k4 k h2 (HNY.out.2.2 k h1)
        obtain ⟨A, c, e, h1, _⟩ := h3.isI
        injection e with e1 _ _
        subst e1
        exact h1
      have HC := Lib.hid (cloneI_any x nA U2.heap.size nc U2.drew (by have := HXL.out; have := (valid_zero HVA.out).1; omega) kI)
      have y5 := ky.cell
      have n5 := kn.cell
      have HK1 := Lib.hid k1
      have HK4 := Lib.hid k4
      have HKV := Lib.hid kv2
      have HKY2 := Lib.hid ky
      have HGA2 := Lib.hid hGa2
      have HGB2 := Lib.hid hGB2
      have HJ2 := Lib.hid j2
      have HJ3 := Lib.hid j3
      have HX2 := Lib.hid (HMEM.out es pre2 hx2)
      have hwl : w.heap.size ≤ U2.heap.size := by have := HWU.out; omega
      have HWL : Hid (w.heap.size ≤ w3.heap.size) := Lib.hid (by have := HWU.out; omega)
      have HWS : Hid (W.heap.size ≤ U2.heap.size) := Lib.hid (by have := HWU.out; omega)
      clear hr2 hHl2 hGl2 j1 j2 j3 j4 hx2 hv2 hGB2 hGa2 hK2 hlV2 hu2 hsz2 k1 k4 kv2 ky kn kI hl2 hs3 hsU hj3 hjV hl3 hEV
      gi_upto_region 5 with fail
      gi_region_with (first | (refine ⟨trivial, ?_⟩; gi_at_call 41; refine (CallsIn.inRound l2 (callsIn_wide.2 HC.out)).mono ?_; rintro e w4 ⟨u, rfl, ho, hb4⟩; obtain ⟨uA, uc, rfl⟩ := OwnE.slice ho; obtain ⟨y6, fn, tmps, assign, body, hy, hR⟩ := mor_mid (R := fun G => Turn (fun b => H2 b ∨ G b) w4 (J ((morL a b pre ++ pre2.map (Mo.mk x)) ++ [⟨x, es⟩])) Jx) (HJ.out _) HK1.out HWS.out hwl HKV.out HGA2.out (fun k h => Nat.le_trans HWL.out (HGB2.out k h)) HKY2.out ho hb4 (fun G3 hj hi hg => HY.out _ ⟨x, es⟩ H2 w4 G3 _ hj HX2.out hi hg); have HO4 := Lib.hid ho; have HB4 := Lib.hid hb4; clear ho hb4) | (refine RoundIn.mono (show RoundIn _ _ _ _ _ _ _ _ _ _ from hR) ?_; rintro e w5 hT5; obtain ⟨bo, rfl, hk5, H5, hg5, hj5, hx5⟩ := turn_bo hT5; have HT5 := Lib.hid hk5; have HG5 := Lib.hid hg5; clear hT5 hk5 hg5))
      all_goals
        rename_i K3 hK3
        have hj6 : bo = true → J (morL a b pre ++ (pre2 ++ [es]).map (Mo.mk x)) H5 w5 := by simpa using hj5
        have HJ6 := Lib.hid hj6
        have HX6 := Lib.hid hx5
        clear hj5 hx5 hj6
        refine hK3 _ _ ?_
        cases bo
        · have HE := Lib.hid (mor_end (Jq := Jx) HJ2.out HJ3.out HK4.out HGB2.out HO4.out HB4.out HT5.out HG5.out (HX6.out rfl))
          gi_wp2
          exact ⟨HE.out.1, HE.out.2.choose, HE.out.2.choose_spec.1, rfl, HE.out.2.choose_spec.2⟩
        · have HE := Lib.hid (mor_end (Jq := J (morL a b pre ++ (pre2 ++ [es]).map (Mo.mk x))) HJ2.out HJ3.out HK4.out HGB2.out HO4.out HB4.out HT5.out HG5.out (HJ6.out rfl))
          rw [List.map_append] at HE
          gi_wp2
          exact HE.out
    case done2 =>
      rintro H2 W2 hg2 hm2 hk2
      have HE := Lib.hid (MI.trans HI2.out (by have := HI3.out; have := HSU.out; omega) HOTH.out HB3.out hm2)
      rw [← morL_snoc] at HE
      refine ⟨((Keeps.of_below' _ HB3.out).trans hk2 fun _ _ h => .inl h), H2, fun k h => (hg2 k h).elim (fun h => .inl (.inl h)) (fun h => .inr (by omega)), HE.out⟩
    case stop2 =>
      rintro c H2 W2 hg2 ⟨rfl, hm2⟩ hk2
      have HE := Lib.hid (MI.trans HI2.out (by have := HI3.out; have := HSU.out; omega) HOTH.out HB3.out hm2)
      have HKK : Hid (Keeps (fun k => Hj k ∨ G k) U W2 ∧ ∃ H', (∀ k, H' k → (Hj k ∨ G k) ∨ V.heap.size ≤ k) ∧ MI W1 H Jx H' W2) := Lib.hid ⟨((Keeps.of_below' _ HB3.out).trans hk2 fun _ _ h => .inl h), H2, fun k h => (hg2 k h).elim (fun h => .inl (.inl h)) (fun h => .inr (by omega)), HE.out⟩
      clear HE hg2 hm2 hk2
      gi_wp2
      exact ⟨HKK.out.1, HKK.out.2.choose, HKK.out.2.choose_spec.1, rfl, HKK.out.2.choose_spec.2⟩
  case done =>
    rintro D Hh Wf hD hHD hg2 ⟨i1, i2, i3, i4⟩ hk hKd
    have HM : Hid (J (allP a b) Hh Wf) := Lib.hid i1
    have HKD := Lib.hid hKd
    have hkf : Keeps H W (Wf.putObj D (.deferred none)) := ((Keeps.of_below' H hbW).trans hk fun _ _ h => h).trans (keeps_putObj (H := fun k => k = D) Wf D _ rfl) fun k hk2 h => by omega
    have HKF := Lib.hid hkf
    have HJF : Hid (J (allP a b) Hh (Wf.putObj D (.deferred none))) := Lib.hid ((HJ.out _).keep HM.out (by simp) fun k h => World.putObj_heap_other fun e => h.elim (fun h => hHD (e ▸ h)) (fun h => by omega))
    have HGF : Hid (∀ k, Hh k → H k ∨ W.heap.size ≤ k) := Lib.hid fun k h => (i2 k h).imp id fun h => by omega
    clear i1 i2 i3 i4 hk hKd hg2 hHD HM hkf
    gi_wp2
    refine ⟨by simp, .inl ⟨_, _, rfl, run_takeDeferred HKD.out, ?_⟩⟩
    exact ⟨_, results_none rfl _ _ _, ⟨_, rfl⟩, HKF.out, Hh, HGF.out, .inl HJF.out⟩
  case stop =>
    rintro D code Hh Wf hD hHD hg2 ⟨rfl, i1, i2, i3, i4⟩ hk hKd
    have HM : Hid (Jx Hh Wf) := Lib.hid i1
    have HKD := Lib.hid hKd
    have hkf : Keeps H W (Wf.putObj D (.deferred none)) := ((Keeps.of_below' H hbW).trans hk fun _ _ h => h).trans (keeps_putObj (H := fun k => k = D) Wf D _ rfl) fun k hk2 h => by omega
    have HKF := Lib.hid hkf
    have HJF : Hid (Jx Hh (Wf.putObj D (.deferred none))) := Lib.hid (HJX.out.keep HM.out (by simp) fun k h => World.putObj_heap_other fun e => h.elim (fun h => hHD (e ▸ h)) (fun h => by omega))
    have HGF : Hid (∀ k, Hh k → H k ∨ W.heap.size ≤ k) := Lib.hid fun k h => (i2 k h).imp id fun h => by omega
    clear i1 i2 i3 i4 hk hKd hg2 hHD HM hkf
    gi_wp2
    refine ⟨by simp, .inl ⟨_, _, rfl, run_takeDeferred HKD.out, ?_⟩⟩
    exact ⟨_, results_none rfl _ _ _, ⟨_, rfl⟩, HKF.out, Hh, HGF.out, .inr HJF.out⟩

end Go.Proofs.YtaeelanbkdkppaaDoor

/-
  Graphs: numbers, Numbers, placesWithout, places, checkAscending, ascending.
-/
namespace Go.Proofs.YtaeelanbkdkppaaDoor
open Go.RowKit

theorem wpList_make_Z {w : World} {ops : Array Oper} {rest : List Oper} {o : Oper} {a : Act} {Q : Exit → Act → World → Prop} (hgd : o.guard = none) (l c : Operand)
    (ho : o.op = Op.makeSlice 22 l c) (base n : Nat) (hl : a.eval l = .int .i64 (n : Int)) (hc : a.eval c = .int .i64 (n : Int)) (hn : n ≤ 1000000) (hbase : base ≤ w.heap.size)
    (hK : ∀ w', OwnI w' base (.slice (some ⟨w.heap.size, 0, none⟩) n n) (List.replicate n 0) → Below w.heap.size w w' → w.heap.size < w'.heap.size → wpList Tryd.prog ops Q rest (a.put o.dst (.slice (some ⟨w.heap.size, 0, none⟩) n n)) w') : wpList Tryd.prog ops Q (o :: rest) a w := by
  obtain ⟨i0, hi, hz0, hz1, hz2⟩ := info_parts infoInt
  refine wpList_make_full w hgd l c 22 ho base 3 i0 (.int .i64 0) 1 Tryd.underlying22 hi hz0 hz1 .i64 .i64 _ _ n hl hc rfl rfl (by rw [hz2]; omega) (by unfold maxLen; omega) hbase ?_
  intro w' h1 h2
  have h3 : OwnI w' base (.slice (some ⟨w.heap.size, 0, none⟩) n n) (List.replicate n 0) := by
    unfold OwnI OwnE
    rw [cellsE_int, List.length_replicate]
    have e : (madeCells (Value.int .i64 0).cells (n * 1)).toList = (List.replicate n (0 : Int)).map (Value.int .i64) := by
      rw [Nat.mul_one]
      refine (toList_madeCells_one _ _).trans ?_
      rw [List.map_replicate]
    rw [e] at h1
    exact h1
  exact hK w' h3 ((Below.refl _ w).grown h2 (Nat.le_refl _) (by intro k hk; cases hk)) (OwnE.lt h3 _ rfl).2

end Go.Proofs.YtaeelanbkdkppaaDoor

/-
  The program's morphisms: small functions; the check of two graphs.
-/
namespace Go.Proofs.YtaeelanbkdkppaaDoor
open Go.RowKit

theorem isIndexM_any (x : Int) (n : Nat) (w : World) : Calls Tryd.prog 39 #[.int .i64 x, .int .i64 (n : Int)] w fun e w' => e = .returned (.bool (idxB x n)) ∧ w = w' := by
  have H : Hid (idxB x n = (decide (0 ≤ x) && decide (x < (n : Int)))) := Lib.hid rfl
  by_cases h1 : 0 ≤ x
  · by_cases h2 : x < (n : Int)
    · go_enter Tryd.func39, Tryd.ntmps39
      go_wp2
      go_ret
      exact ⟨ret_bool (by rw [H.out, decide_eq_true h1, decide_eq_true h2]; rfl), rfl⟩
    · have h2' : (n : Int) ≤ x := by omega
      go_enter Tryd.func39, Tryd.ntmps39
      go_wp2
      go_ret
      exact ⟨ret_bool (by rw [H.out, decide_eq_true h1, decide_eq_false (p := x < (n : Int)) (by omega)]; rfl), rfl⟩
  · have h1' : x < 0 := by omega
    go_enter Tryd.func39, Tryd.ntmps39
    go_wp2
    go_ret
    exact ⟨ret_bool (by rw [H.out, decide_eq_false (p := 0 ≤ x) (by omega)]; rfl), rfl⟩

def chkE (a b : Gr) : Nat := if validE a ≠ 0 then validE a else validE b

set_option maxHeartbeats 1000000 in
theorem chkM_any (g h : Gr) (An : Option Addr) (cn : Nat) (Ae : Option Addr) (ce : Nat) (Bn : Option Addr) (dn : Nat) (Be : Option Addr) (de : Nat) (w : World) (hT : GrAt w An cn Ae ce g) (hU : GrAt w Bn dn Be de h) :
    Calls Tryd.prog 38 #[gval An g.ns.length cn Ae g.es.length ce, gval Bn h.ns.length dn Be h.es.length de] w fun e w' => e = .returned (.int .i64 (chkE g h)) ∧ Below w.heap.size w w' := by
  have hb0 : Below w.heap.size w ((w.alloc (.cells #[.slice An g.ns.length cn, .slice Ae g.es.length ce] 25 (0, 0))).alloc (.cells #[.slice Bn h.ns.length dn, .slice Be h.es.length de] 25 (0, 0))) := ((Below.refl _ _).alloc (Nat.le_refl _) _).alloc (by simp) _
  have HB0 := Lib.hid hb0
  have HV := Lib.hid (validP_any g An cn Ae ce _ (hT.up hb0))
  have HW := Lib.hid (fun u (hu : Below w.heap.size w u) => validP_any h Bn dn Be de u (hU.up hu))
  have HX : Hid (chkE g h = if validE g ≠ 0 then validE g else validE h) := Lib.hid rfl
  clear hT hU hb0
  generalize chkE g h = R at HX ⊢
  generalize validE g = v at HV HX
  generalize validE h = v2 at HW HX
  go_enter Tryd.func38, Tryd.ntmps38
  go_wp2_with fail
  refine HV.out.mono ?_
  rintro e w1 ⟨rfl, hb1⟩
  obtain ⟨b0, b1, hsz⟩ := boxes2 hb1
  obtain ⟨c2, c3⟩ := cell2 b1
  clear b0 b1
  have HB := Lib.hid (HB0.out.trans (hb1.mono (by simp; omega)))
  have HS := Lib.hid hsz
  clear hb1 hsz
  by_cases hv : v = 0
  case neg =>
    have HR := Lib.hid (show R = v by rw [HX.out, if_pos hv])
    have t1 : ((v : Int) != 0) = true := by simp; omega
    clear hv
    go_wp2_with fail
    go_ret
    exact ⟨ret_int (by rw [HR.out]), HB.out⟩
  subst hv
  have HX2 := Lib.hid (show R = v2 by rw [HX.out, if_neg (fun h => h rfl)])
  clear HX HV
  go_wp2_with fail
  refine (HW.out _ HB.out).mono ?_
  rintro e w2 ⟨rfl, hb2⟩
  have HB2 := Lib.hid (HB.out.trans (hb2.mono (by have := HS.out; omega)))
  clear hb2 c2 c3
  go_wp2_with fail
  go_ret
  exact ⟨ret_int (by rw [HX2.out]), HB2.out⟩

theorem thr_coll (l k : List Int) : coll (fun i => [k.getD (l.getD i 0).toNat 0]) l.length = thr l k := by
  apply List.ext_getElem (by rw [coll_len, thr_len])
  intro i h1 h2
  rw [thr_len] at h2
  rw [← getD_eq h1, ← getD_eq (by rw [thr_len]; exact h2), thr_get h2, coll_getD _ h2 _]

set_option maxHeartbeats 1000000 in
/-- the images of images, where they are places -/
theorem follow_any (l k : List Int) (A B : Option Addr) (c d : Nat) (w : World) (hl : l.length ≤ 1000) (hr : ∀ x ∈ l, 0 ≤ x ∧ x < k.length) (hA : Ints w w.heap.size A l) (hB : Ints w w.heap.size B k) :
    Calls Tryd.prog 49 #[.slice A l.length c, .slice B k.length d] w fun e w' => ∃ v, e = .returned v ∧ OwnI w' w.heap.size v (thr l k) ∧ Below w.heap.size w w' := by
  have HP := Lib.hid (fun j (h : j < l.length) => pad_set (fun i => k.getD (l.getD i 0).toNat 0) 0 h)
  have HPL := Lib.hid (fun j (h : j ≤ l.length) => pad_len (fun i => k.getD (l.getD i 0).toNat 0) 0 h)
  have HZ := Lib.hid (pad_zero (fun i => k.getD (l.getD i 0).toNat 0) 0 l.length)
  have HE := Lib.hid ((pad_all (fun i => k.getD (l.getD i 0).toNat 0) 0 l.length).trans (thr_coll l k))
  have HA := Lib.hid hA
  have HK := Lib.hid hB
  have HR := Lib.hid hr
  clear hA hB hr
  generalize thr l k = R at HE ⊢
  generalize hP : pad (fun i => k.getD (l.getD i 0).toNat 0) 0 l.length = P at HP HPL HZ HE
  clear hP
  go_enter Tryd.func49, Tryd.ntmps49
  go_wp2_with (at_make; refine wpList_make_Z rfl _ _ rfl w.heap.size l.length rfl rfl (by omega) (Nat.le_refl _) ?_; intro w1 hown hb hsz)
  have HO := Lib.hid hown
  have HB := Lib.hid hb
  clear hown hb
  go_wp2_with fail
  go_loopw [13] (fun x wr => ∃ j : Nat, j ≤ l.length ∧ x = .int .i64 j ∧ OwnI wr w.heap.size (.slice (some ⟨w.heap.size, 0, none⟩) l.length l.length) (P j) ∧ Below w.heap.size w wr) (fun x _ => l.length - (intOf x).toNat)
  case atStart => exact ⟨0, Nat.zero_le _, rfl, by rw [HZ.out]; exact HO.out, HB.out⟩
  case round =>
    obtain ⟨j, hj, rfl, hown, hbel⟩ := hrel
    have HG := Lib.hid hbel
    by_cases hlt : j < l.length
    · have hln := HPL.out j hj
      obtain ⟨b, off, rfl, hb, hc⟩ := Ints.cells (HA.out.below hbel) hlt
      have cj := hc j hlt
      have hx := HR.out _ (getD_mem (d := (0 : Int)) hlt)
      obtain ⟨q, hq⟩ : ∃ q : Nat, l.getD j 0 = (q : Int) := ⟨(l.getD j 0).toNat, by omega⟩
      have HPJ := HP.out j hlt
      rw [hq] at cj hx HPJ
      have hqk : q < k.length := by omega
      obtain ⟨b2, off2, rfl, hb2, hd⟩ := Ints.cells (HK.out.below hbel) hqk
      have dq := hd q hqk
      have fj := OwnI.free hln.symm hown j
      have oj := OwnI.cell hln.symm hown hlt
      rw [Int.toNat_natCast] at HPJ
      have hset := OwnI.set hln.symm hown j (k.getD q 0)
      rw [HPJ] at hset
      have HW := Lib.hid hset
      generalize (P j).getD j 0 = y0 at oj
      generalize k.getD q 0 = y at dq HW
      have q0 : (0 : Int) ≤ (q : Int) := by omega
      have q1 : (q : Int) < (k.length : Int) := by omega
      have q2 : ((q : Int)).toNat = q := by omega
      clear hset hown hbel hln hc hd hx hq HPJ
      go_wp2_with fail
      go_roundw
      case rel => exact ⟨j + 1, by omega, by go_num, HW.out.1, HG.out.setCell (p := ⟨w.heap.size, j, none⟩) (Nat.le_refl _) _⟩
      case measure => simp [intOf]; omega
    · have e : j = l.length := by omega
      subst e
      have HW := Lib.hid (OwnE.cast HE.out hown)
      clear hown
      go_wp2_with fail
      go_ret
      exact ⟨_, rfl, HW.out, HG.out⟩

/-! inverses -/
end Go.Proofs.YtaeelanbkdkppaaDoor

/-
  Slices of structures that hold slices: what they read as, by an element's relation tq its cells.
-/
namespace Go.Proofs.YtaeelanbkdkppaaDoor
open Go.RowKit

/-- how an element lies in cells, where some of the cells lead on into memory below B -/
structure DEl (α : Type) where
  size : Nat
  rel : World → Nat → α → List Value → Prop
  len : ∀ {w B x cs}, rel w B x cs → cs.length = size
  below : ∀ {w w' B x cs}, rel w B x cs → Below B w w' → rel w' B x cs
  mono : ∀ {w B B' x cs}, rel w B x cs → B ≤ B' → rel w B' x cs

section
variable {α : Type} {D : DEl α}
/-- the slice at A reads as xs, in blocks below B -/
def DReads (D : DEl α) (w : World) (B : Nat) (A : Option Addr) (xs : List α) : Prop :=
  xs = [] ∨ ∃ b off, A = some ⟨b, off, none⟩ ∧ b < B ∧ ∀ i x, xs[i]? = some x → ∃ cs, D.rel w B x cs ∧ ∀ j u, cs[j]? = some u → w.cell? ⟨b, off + i * D.size + j, none⟩ = some u
/-- a slice value that reads as xs -/
def DSl (D : DEl α) (w : World) (B : Nat) (v : Value) (xs : List α) : Prop := ∃ A c, v = .slice A xs.length c ∧ DReads D w B A xs

theorem DReads.below {w w' : World} {B : Nat} {A : Option Addr} {xs : List α} (h : DReads D w B A xs) (hb : Below B w w') : DReads D w' B A xs := by
  rcases h with h | ⟨b, off, h1, h2, h3⟩
  · exact .inl h
  · refine .inr ⟨b, off, h1, h2, fun i x hx => ?_⟩
    obtain ⟨cs, k1, k2⟩ := h3 i x hx
    exact ⟨cs, D.below k1 hb, fun j u hu => (hb.cell (p := ⟨b, off + i * D.size + j, none⟩) h2).trans (k2 j u hu)⟩
theorem DReads.mono {w : World} {B B' : Nat} {A : Option Addr} {xs : List α} (h : DReads D w B A xs) (hb : B ≤ B') : DReads D w B' A xs := by
  rcases h with h | ⟨b, off, h1, h2, h3⟩
  · exact .inl h
  · refine .inr ⟨b, off, h1, by omega, fun i x hx => ?_⟩
    obtain ⟨cs, k1, k2⟩ := h3 i x hx
    exact ⟨cs, D.mono k1 hb, k2⟩
theorem DReads.up {w w' : World} {A : Option Addr} {xs : List α} (h : DReads D w w.heap.size A xs) (hb : Below w.heap.size w w') : DReads D w' w'.heap.size A xs := (h.below hb).mono hb.size
theorem DReads.at {w : World} {B : Nat} {A : Option Addr} {xs : List α} (h : DReads D w B A xs) {k : Nat} (hk : k < xs.length) :
    ∃ b off cs, A = some ⟨b, off, none⟩ ∧ b < B ∧ D.rel w B xs[k] cs ∧ ∀ j u, cs[j]? = some u → w.cell? ⟨b, off + k * D.size + j, none⟩ = some u := by
  rcases h with h | ⟨b, off, h1, h2, h3⟩
  · subst h; simp at hk
  · obtain ⟨cs, k1, k2⟩ := h3 k xs[k] (List.getElem?_eq_getElem hk)
    exact ⟨b, off, cs, h1, h2, k1, k2⟩
theorem DReads.take {w : World} {B : Nat} {A : Option Addr} {xs : List α} (h : DReads D w B A xs) (k : Nat) : DReads D w B A (xs.take k) := by
  rcases h with h | ⟨b, off, h1, h2, h3⟩
  · exact .inl (by rw [h]; simp)
  · refine .inr ⟨b, off, h1, h2, fun i x hx => h3 i x ?_⟩
    rw [List.getElem?_take] at hx
    split at hx
    · exact hx
    · cases hx
theorem DSl.below {w w' : World} {B : Nat} {v : Value} {xs : List α} (h : DSl D w B v xs) (hb : Below B w w') : DSl D w' B v xs := by
  obtain ⟨A, c, e, h⟩ := h
  exact ⟨A, c, e, h.below hb⟩
theorem DSl.mono {w : World} {B B' : Nat} {v : Value} {xs : List α} (h : DSl D w B v xs) (hb : B ≤ B') : DSl D w B' v xs := by
  obtain ⟨A, c, e, h⟩ := h
  exact ⟨A, c, e, h.mono hb⟩
theorem DSl.up {w w' : World} {v : Value} {xs : List α} (h : DSl D w w.heap.size v xs) (hb : Below w.heap.size w w') : DSl D w' w'.heap.size v xs := (h.below hb).mono hb.size
theorem DSl.nil (D : DEl α) (w : World) (B : Nat) : DSl D w B (.slice none 0 0) [] := ⟨none, 0, rfl, .inl rfl⟩

/-- a plain element -/
def El.deep (E : El α) : DEl α := ⟨E.size, fun _ _ x cs => cs = E.enc x, fun h => by rw [h]; exact E.len _, fun h _ => h, fun h _ => h⟩
theorem Reads.deep {E : El α} {w : World} {B : Nat} {A : Option Addr} {xs : List α} (h : Reads E w B A xs) : DReads E.deep w B A xs := by
  rcases h with h | ⟨b, off, h1, h2, h3⟩
  · exact .inl h
  · exact .inr ⟨b, off, h1, h2, fun i x hx => ⟨E.enc x, rfl, h3 i x hx⟩⟩
theorem DReads.plain {E : El α} {w : World} {B : Nat} {A : Option Addr} {xs : List α} (h : DReads E.deep w B A xs) : Reads E w B A xs := by
  rcases h with h | ⟨b, off, h1, h2, h3⟩
  · exact .inl h
  · refine .inr ⟨b, off, h1, h2, fun i x hx j u hu => ?_⟩
    obtain ⟨cs, k1, k2⟩ := h3 i x hx
    have k1 : cs = E.enc x := k1
    subst k1
    exact k2 j u hu

end

section
open Go.ChangeShapes Go.WideShapes Go.Deep

end

end Go.Proofs.YtaeelanbkdkppaaDoor

/-
  Parts in memory: what reads as a list of parts, and one that a call made, whose rows lie apart.
-/
namespace Go.Proofs.YtaeelanbkdkppaaDoor
open Go.RowKit

def DPart : DEl Mo := ⟨2, fun w B x cs => ∃ A1 c1 A2 c2, cs = [.slice A1 x.ns.length c1, .slice A2 x.es.length c2] ∧ Ints w B A1 x.ns ∧ Ints w B A2 x.es,
  fun h => by obtain ⟨A1, c1, A2, c2, rfl, _⟩ := h; rfl, fun h hb => by obtain ⟨A1, c1, A2, c2, e, h1, h2⟩ := h; exact ⟨A1, c1, A2, c2, e, Reads.below h1 hb, Reads.below h2 hb⟩, fun h hb => by obtain ⟨A1, c1, A2, c2, e, h1, h2⟩ := h; exact ⟨A1, c1, A2, c2, e, h1.mono hb, h2.mono hb⟩⟩
abbrev Pts (w : World) (B : Nat) (A : Option Addr) (ps : List Mo) : Prop := DReads DPart w B A ps
def IsP (w : World) (v : Value) (ps : List Mo) : Prop := ∃ A c, v = .slice A ps.length c ∧ Pts w w.heap.size A ps
theorem IsP.up {w w' : World} {v : Value} {ps : List Mo} (h : IsP w v ps) (hb : Below w.heap.size w w') : IsP w' v ps := by
  obtain ⟨A, c, e, h⟩ := h
  exact ⟨A, c, e, h.up hb⟩
theorem isP_nil (w : World) : IsP w (.slice none 0 0) [] := ⟨none, 0, rfl, .inl rfl⟩
end Go.Proofs.YtaeelanbkdkppaaDoor

/-
  All: the program's list of all morphisms between two graphs.
-/
namespace Go.Proofs.YtaeelanbkdkppaaDoor
open Go.RowKit Go.Shelf

attribute [local go_sem] Oper.semAt_some

theorem infoMor : (Tryd.prog.info? 27).map (fun i => (i.zero, i.size, i.bytes)) = some (some (.agg #[.slice none 0 0, .slice none 0 0]), 2, 48) := by kernel_rfl
theorem ownsRow_same {w w' : World} {base : Nat} {t : TypeId} {size : Nat} {v : Value} {n : Nat} {xs : List Value} (h : w.ownsRow base t size v n xs) (hb : ∀ g, v.ownBlock = some g → w'.heap[g]? = w.heap[g]?) : w'.ownsRow base t size v n xs := by
  refine ⟨h.1, ?_⟩
  rcases h.2 with hn | ⟨g, cap, cur, hv, hbg, hg, rest⟩
  · exact .inl hn
  · exact .inr ⟨g, cap, cur, hv, hbg, by rw [hb g (by rw [hv]; rfl)]; exact hg, rest⟩
theorem ownsRow_lt {w : World} {base : Nat} {t : TypeId} {size : Nat} {v : Value} {n : Nat} {xs : List Value} (h : w.ownsRow base t size v n xs) : ∀ k, v.ownBlock = some k → base ≤ k ∧ k < w.heap.size := World.ownsRow.lt h
/-- a row lies in another block than one of another type -/
theorem ownsRow_far {t t' : TypeId} {w : World} {base size B : Nat} {v : Value} {n : Nat} {xs : List Value} {cs : Array Value} (h : w.ownsRow base t size v n xs) (hb : w.heap[B]? = some (.cells cs t' (0, 0))) (hne : t ≠ t') : v.ownBlock ≠ some B := by
  rcases h.2 with ⟨rfl, _⟩ | ⟨g, cap, cur, rfl, _, hg, _⟩
  · simp [Value.ownBlock]
  · intro he
    have e : g = B := by simpa [Value.ownBlock] using he
    subst e
    rw [hg] at hb
    simp only [Option.some.injEq, Obj.cells.injEq] at hb
    exact hne hb.2.1

/-- a row of morphisms, whose slices lie in blocks of M -/
def RowM (base : Nat) (M : Blks) (V : World) (v : Value) (ms : List Mo) : Prop :=
  ∃ vs : List Value, V.ownsRow base 27 2 v ms.length vs ∧ ∀ i (h : i < ms.length), ∃ v1 v2, vs[i * 2]? = some v1 ∧ vs[i * 2 + 1]? = some v2 ∧ InG M V v1 ms[i].ns ∧ InG M V v2 ms[i].es
theorem RowM.nil (base : Nat) (M : Blks) (V : World) : RowM base M V (.slice none 0 0) [] := ⟨[], World.ownsRow_nil V base _ _, fun i h => by simp at h⟩
theorem RowM.same {base : Nat} {M : Blks} {V V' : World} {v : Value} {ms : List Mo} (h : RowM base M V v ms) (hs : V.heap.size ≤ V'.heap.size) (hv : ∀ g, v.ownBlock = some g → V'.heap[g]? = V.heap[g]?) (hM : ∀ b, M b → b < V.heap.size → V'.heap[b]? = V.heap[b]?) : RowM base M V' v ms := by
  obtain ⟨vs, h1, h2⟩ := h
  refine ⟨vs, ownsRow_same h1 hv, fun i hi => ?_⟩
  obtain ⟨v1, v2, e1, e2, k1, k2⟩ := h2 i hi
  exact ⟨v1, v2, e1, e2, k1.up hs hM, k2.up hs hM⟩
theorem RowM.lt {base : Nat} {M : Blks} {V : World} {v : Value} {ms : List Mo} (h : RowM base M V v ms) : ∀ k, v.ownBlock = some k → base ≤ k ∧ k < V.heap.size := by
  obtain ⟨vs, h1, _⟩ := h
  exact ownsRow_lt h1
theorem RowM.far {t' : TypeId} {base B : Nat} {M : Blks} {V : World} {v : Value} {ms : List Mo} {cs : Array Value} (h : RowM base M V v ms) (hb : V.heap[B]? = some (.cells cs t' (0, 0))) (hne : 27 ≠ t') : v.ownBlock ≠ some B := by
  obtain ⟨vs, h1, _⟩ := h
  exact ownsRow_far h1 hb hne
theorem RowM.isP {base : Nat} {M : Blks} {V : World} {v : Value} {ms : List Mo} (h : RowM base M V v ms) : IsP V v ms := by
  obtain ⟨vs, h1, h2⟩ := h
  have h1c := h1
  rcases h1.2 with ⟨hv, h0⟩ | ⟨g, cap, cur, hv, hbg, hg, _⟩
  · exact ⟨none, 0, by rw [hv, h0], .inl (List.eq_nil_of_length_eq_zero h0)⟩
  · refine ⟨_, cap, hv, .inr ⟨g, 0, rfl, (Array.getElem?_eq_some_iff.1 hg).1, fun i x hx => ?_⟩⟩
    obtain ⟨hi, ex⟩ := List.getElem?_eq_some_iff.1 hx
    obtain ⟨v1, v2, e1, e2, k1, k2⟩ := h2 i hi
    rw [ex] at k1 k2
    obtain ⟨A1, c1, rfl, r1, _⟩ := k1.isI
    obtain ⟨A2, c2, rfl, r2, _⟩ := k2.isI
    refine ⟨[.slice A1 x.ns.length c1, .slice A2 x.es.length c2], ⟨A1, c1, A2, c2, rfl, r1, r2⟩, fun j u hu => ?_⟩
    have hc := World.ownsRow.cells h1c (g := g) (by rw [hv]; rfl)
    have key : ∀ q y, vs[q]? = some y → V.cell? ⟨g, 0 + q, none⟩ = some y := fun q y hy => by
      have := hc q y hy
      rwa [addr_plain] at this
    show V.cell? ⟨g, 0 + i * 2 + j, none⟩ = some u
    rw [Nat.add_assoc]
    match j, hu with
    | 0, hu => simp at hu; subst hu; exact key _ _ e1
    | 1, hu => simp at hu; subst hu; exact key _ _ e2
    | j + 2, hu => simp at hu
theorem RowM.snoc {base : Nat} {M G : Blks} {V V' : World} {v v' v1 v2 : Value} {ms : List Mo} {m : Mo} {vs : List Value} (h1 : V.ownsRow base 27 2 v ms.length vs)
    (h2 : ∀ i (h : i < ms.length), ∃ v1 v2, vs[i * 2]? = some v1 ∧ vs[i * 2 + 1]? = some v2 ∧ InG M V v1 ms[i].ns ∧ InG M V v2 ms[i].es) (k1 : InG G V v1 m.ns) (k2 : InG G V v2 m.es)
    (hs : V.heap.size ≤ V'.heap.size) (hM : ∀ b, M b ∨ G b → b < V.heap.size → V'.heap[b]? = V.heap[b]?) (ho : V'.ownsRow base 27 2 v' (ms.length + 1) (vs ++ [v1, v2])) : RowM base (fun b => M b ∨ G b) V' v' (ms ++ [m]) := by
  have hl : vs.length = ms.length * 2 := h1.1
  refine ⟨vs ++ [v1, v2], by simpa using ho, fun i hi => ?_⟩
  by_cases e : i < ms.length
  · obtain ⟨x1, x2, e1, e2, q1, q2⟩ := h2 i e
    rw [List.getElem_append_left e]
    refine ⟨x1, x2, ?_, ?_, (q1.up hs fun b h => hM b (.inl h)).mono fun b h => .inl h, (q2.up hs fun b h => hM b (.inl h)).mono fun b h => .inl h⟩
    · rw [List.getElem?_append_left (by omega)]; exact e1
    · rw [List.getElem?_append_left (by omega)]; exact e2
  · have e : i = ms.length := by simp at hi; omega
    subst e
    have eg : (ms ++ [m])[ms.length] = m := by simp
    rw [eg]
    refine ⟨v1, v2, ?_, ?_, (k1.up hs fun b h => hM b (.inr h)).mono fun b h => .inr h, (k2.up hs fun b h => hM b (.inr h)).mono fun b h => .inr h⟩
    · rw [List.getElem?_append_right (by omega), show ms.length * 2 - vs.length = 0 by omega]; rfl
    · rw [List.getElem?_append_right (by omega), show ms.length * 2 + 1 - vs.length = 1 by omega]; rfl

theorem wpListIn_append_mor {F : Fence} {n : Nat} {w : World} {ops : Array Oper} {rest : List Oper} {o : Oper} {a : Act} {Q : Exit → Act → World → Prop} (hgd : o.guard = none) (s x : Operand)
    (ho : o.op = .call { callee := .builtin .append, args := #[s, x], argTypes := #[48, 48] }) (base : Nat) (v : Value) (k : Nat) (vs : List Value) (hs : a.eval s = v) (hown : w.ownsRow base 27 2 v k vs) (g c : Nat) (m1 m2 : Value) (hx : a.eval x = .slice (some ⟨g, 0, none⟩) 1 c)
    (h1 : w.cell? ⟨g, 0, none⟩ = some m1) (h2 : w.cell? ⟨g, 1, none⟩ = some m2) (o1 : m1.oneCell' = true) (o2 : m2.oneCell' = true) (hl : k ≤ 1000000) (hbase : base ≤ w.heap.size)
    (hK : ∀ v' w', w'.ownsRow base 27 2 v' (k + 1) (vs ++ [m1, m2]) → w.grownBy w' v.ownBlock → (v'.ownBlock = v.ownBlock ∨ v'.ownBlock = some w.heap.size) → wpListIn F n Tryd.prog ops Q rest (a.put o.dst v') w') :
    wpListIn F n Tryd.prog ops Q (o :: rest) a w := by
  refine wpListIn_plain hgd fun K hK' => ?_
  obtain ⟨i0, hi, hz0, hz1, hz2⟩ := info_parts infoMor
  obtain ⟨v', w', hrun, r1, r2, _, r4⟩ := run_append_own_at (P := Tryd.prog) w base 48 o.type 27 i0 _ 2 48 Tryd.underlying48 hi hz0 hz1 hz2 rfl (by decide) v k vs hown ⟨g, 0, none⟩ 1 c [m1, m2] rfl (by
    intro j u hj
    rw [addr_plain, Nat.zero_add]
    match j, hj with
    | 0, hj => simp at hj; subst hj; exact h1
    | 1, hj => simp at hj; subst hj; exact h2
    | j + 2, hj => simp at hj) (by
    intro u hu
    simp at hu
    rcases hu with rfl | rfl
    · exact o1
    · exact o2) (by unfold maxLen; omega) (by omega) hbase
  unfold Oper.wpIn
  refine ⟨?_, ?_⟩
  · simp [Oper.about, ho, resolve, Target.leads, Sem.run_pure]
  · rw [Oper.semAt_plain F _ _ (by rw [ho]; intro c hc'; cases hc')]
    simp [execOp, ho, resolve, invoke, builtin, hs, hx, hrun, Result.andThen]
    exact hK' _ _ (hK v' w' r1 r2 r4)

theorem results_le {fn : Func} {p q : Tmp} {er : Int} {v : Value} (h : fn.results = #[.cell p 48, .cell q 32]) (tmps : Array Value) (w : World) (g k : Nat)
    (hp : tmps.getD p undef = .pointer (some ⟨g, 0, none⟩)) (hq : tmps.getD q undef = .pointer (some ⟨k, 0, none⟩)) (hg : Boxed w g 48 v) (hk : Boxed w k 32 (.int .i64 er)) : (results fn tmps).run Tryd.prog w = .ok (.tuple #[v, .int .i64 er]) w := by
  have hp' : tmps[p]?.getD undef = .pointer (some ⟨g, 0, none⟩) := by simpa using hp
  have hq' : tmps[q]?.getD undef = .pointer (some ⟨k, 0, none⟩) := by simpa using hq
  have hc := hg.cell
  have hd := hk.cell
  simp [results, h, hp', hq', asAddr, go_sem, hc, hd]

/-- what the rounds of All hold -/
structure AllJ (base lb rl re : Nat) (pre : List Mo) (H : Blks) (V : World) (M : Blks) (v : Value) : Prop where
  box : Boxed V lb 48 v
  row : RowM base M V v pre
  brl : Boxed V rl 48 (.slice none 0 0)
  bre : Boxed V re 32 (.int .i64 0)
  own : ∀ b, v.ownBlock = some b → H b ∧ ¬ M b
  mh : ∀ b, M b → H b ∧ b ≠ lb ∧ b ≠ rl ∧ b ≠ re
  hl : H lb
  hrl : H rl
  hre : H re
  lt : ∀ b, H b → b < V.heap.size
  ge : ∀ b, H b → base ≤ b
  len : pre.length ≤ 2000
theorem AllJ.keep {base lb rl re : Nat} {pre : List Mo} {H : Blks} {V V' : World} {M : Blks} {v : Value} (h : AllJ base lb rl re pre H V M v) (hs : V.heap.size ≤ V'.heap.size) (hb : ∀ b, H b → V'.heap[b]? = V.heap[b]?) : AllJ base lb rl re pre H V' M v :=
  ⟨(hb _ h.hl).trans h.box, h.row.same hs (fun g hg => hb g (h.own g hg).1) (fun b hm _ => hb b (h.mh b hm).1), (hb _ h.hrl).trans h.brl, (hb _ h.hre).trans h.bre, h.own, h.mh, h.hl, h.hrl, h.hre, fun b hb2 => Nat.lt_of_lt_of_le (h.lt b hb2) hs, h.ge, h.len⟩
theorem AllJ.foot {Rd : Blks} {base lb rl re : Nat} {pre : List Mo} : Foot Rd (fun H V => ∃ M v, AllJ base lb rl re pre H V M v) := by
  rintro H V ⟨M, v, h⟩
  exact ⟨h.lt, fun V' hs hb => ⟨M, v, h.keep hs fun b hb2 => hb b (.inl hb2)⟩⟩
/-- and when there are too many -/
structure AllX (big : Prop) (base rl re : Nat) (H : Blks) (V : World) : Prop where
  big : big
  brl : Boxed V rl 48 (.slice none 0 0)
  bre : Boxed V re 32 (.int .i64 3)
  hrl : H rl
  hre : H re
  lt : ∀ b, H b → b < V.heap.size
theorem AllX.foot {Rd : Blks} {big : Prop} {base rl re : Nat} : Foot Rd (AllX big base rl re) := by
  rintro H V h
  exact ⟨h.lt, fun V' hs hb => ⟨h.big, (hb _ (.inl h.hrl)).trans h.brl, (hb _ (.inl h.hre)).trans h.bre, h.hrl, h.hre, fun b hb2 => Nat.lt_of_lt_of_le (h.lt b hb2) hs⟩⟩

/-- a round that takes a morphism -/
theorem all_next {base lb rl re : Nat} {pre : List Mo} {H G M : Blks} {U W w' : World} {v v' v1 v2 : Value} {x : Mo} {vs : List Value} (h : AllJ base lb rl re pre H U M v) (hlen : pre.length < 2000)
    (hg : ∀ b, G b → ¬ H b ∧ b < U.heap.size) (hgb : ∀ b, G b → base ≤ b) (i1 : InG G U v1 x.ns) (i2 : InG G U v2 x.es) (hne : rl ≠ lb ∧ re ≠ lb)
    (_ : base ≤ U.heap.size) (hW : Below U.heap.size U W) (hvs : ∀ i (h : i < pre.length), ∃ v1 v2, vs[i * 2]? = some v1 ∧ vs[i * 2 + 1]? = some v2 ∧ InG M U v1 pre[i].ns ∧ InG M U v2 pre[i].es) (hown : U.ownsRow base 27 2 v pre.length vs)
    (ho : w'.ownsRow base 27 2 v' (pre.length + 1) (vs ++ [v1, v2])) (hgr : W.grownBy w' v.ownBlock) (hv' : v'.ownBlock = v.ownBlock ∨ v'.ownBlock = some W.heap.size) :
    Keeps (fun b => H b ∨ G b) U (w'.setCell ⟨lb, 0, none⟩ v') ∧ ∃ H', (∀ b, H' b → (H b ∨ G b) ∨ U.heap.size ≤ b) ∧ ∃ M v, AllJ base lb rl re (pre ++ [x]) H' (w'.setCell ⟨lb, 0, none⟩ v') M v := by
  have s1 := hW.size
  have s2 := hgr.size
  have sz : (w'.setCell ⟨lb, 0, none⟩ v').heap.size = w'.heap.size := by simp [World.setCell]
  have hoth : ∀ b, b < U.heap.size → v.ownBlock ≠ some b → b ≠ lb → (w'.setCell ⟨lb, 0, none⟩ v').heap[b]? = U.heap[b]? := fun b h1 h2 h3 => (heap_setCell_other _ _ _ _ h3).trans ((hgr.block b (by omega) (fun e => h2 e.symm)).trans (hW.block b h1))
  have hfl : v.ownBlock ≠ some lb := h.row.far h.box (by decide)
  have hfl' : v'.ownBlock ≠ some lb := by
    rcases hv' with e | e
    · rw [e]; exact hfl
    · rw [e]; intro e2; injection e2 with e2; have := h.lt _ h.hl; omega
  have hlbw : w'.heap[lb]? = some (.cells #[v] 48 (0, 0)) := (hgr.block lb (by have := h.lt _ h.hl; omega) (fun e => hfl e.symm)).trans ((hW.block lb (h.lt _ h.hl)).trans h.box)
  have hnl : ∀ b, v'.ownBlock = some b → b ≠ lb := fun b hb e => hfl' (e ▸ hb)
  have hown' : (w'.setCell ⟨lb, 0, none⟩ v').ownsRow base 27 2 v' (pre.length + 1) (vs ++ [v1, v2]) := ownsRow_same ho fun g hg => heap_setCell_other _ _ _ _ (hnl g hg)
  have hk : Keeps (fun b => H b ∨ G b) U (w'.setCell ⟨lb, 0, none⟩ v') := by
    refine ⟨hgr.os.trans hW.os, hgr.tape.trans hW.tape, hgr.output.trans hW.output, by omega, fun b hb hn => hoth b hb (fun e => hn (.inl (h.own b e).1)) (fun e => hn (.inl (e ▸ h.hl)))⟩
  have hfr : v.ownBlock ≠ some rl := h.row.far h.brl (by decide)
  have hfe : v.ownBlock ≠ some re := h.row.far h.bre (by decide)
  have hlt' := ownsRow_lt hown'
  refine ⟨hk, fun b => H b ∨ G b ∨ v'.ownBlock = some b, fun b hb => ?_, fun b => M b ∨ G b, v', ?_, ?_, ?_, ?_, ?_, ?_, .inl h.hl, .inl h.hrl, .inl h.hre, ?_, ?_, by simp; omega⟩
  · rcases hb with hb | hb | hb
    · exact .inl (.inl hb)
    · exact .inl (.inr hb)
    · rcases hv' with e | e
      · exact .inl (.inl (h.own b (e ▸ hb)).1)
      · rw [e] at hb; injection hb with hb; exact .inr (by omega)
  · exact heap_setCell_same w' lb 0 _ _ v' hlbw
  · refine RowM.snoc hown hvs i1 i2 (by omega) (fun b hb hl => hoth b hl ?_ ?_) hown'
    · intro e
      rcases hb with hb | hb
      · exact (h.own b e).2 hb
      · exact (hg b hb).1 (h.own b e).1
    · intro e
      rcases hb with hb | hb
      · exact (h.mh b hb).2.1 e
      · exact (hg b hb).1 (e ▸ h.hl)
  · exact (hoth rl (h.lt _ h.hrl) hfr hne.1).trans h.brl
  · exact (hoth re (h.lt _ h.hre) hfe hne.2).trans h.bre
  · intro b hb
    refine ⟨.inr (.inr hb), fun hm => ?_⟩
    rcases hv' with e | e
    · rcases hm with hm | hm
      · exact (h.own b (e ▸ hb)).2 hm
      · exact (hg b hm).1 (h.own b (e ▸ hb)).1
    · rw [e] at hb
      injection hb with hb
      rcases hm with hm | hm
      · have := h.lt b (h.mh b hm).1; omega
      · have := (hg b hm).2; omega
  · intro b hb
    rcases hb with hb | hb
    · exact ⟨.inl (h.mh b hb).1, (h.mh b hb).2⟩
    · exact ⟨.inr (.inl hb), fun e => (hg b hb).1 (e ▸ h.hl), fun e => (hg b hb).1 (e ▸ h.hrl), fun e => (hg b hb).1 (e ▸ h.hre)⟩
  · intro b hb
    rcases hb with hb | hb | hb
    · have := h.lt b hb; omega
    · have := (hg b hb).2; omega
    · exact (hlt' b hb).2
  · intro b hb
    rcases hb with hb | hb | hb
    · exact h.ge b hb
    · exact hgb b hb
    · exact (hlt' b hb).1

noncomputable def allE (a b : Gr) : Nat := if chkE a b ≠ 0 then chkE a b else if 2000 < (allR a b).length then 3 else 0
noncomputable def allS (a b : Gr) : List Mo := if allE a b = 0 then allR a b else []
theorem chk_zero {a b : Gr} (h : chkE a b = 0) : validE a = 0 ∧ validE b = 0 := by
  unfold chkE at h
  split at h
  · omega
  · exact ⟨by omega, h⟩

end Go.Proofs.YtaeelanbkdkppaaDoor

/-
  Graphs, the program: the checks of AddNode, AddEdge, Union, Incident.
-/
namespace Go.Proofs.YtaeelanbkdkppaaDoor
open Go.RowKit

theorem ne_beq {a b : Int} (h : a ≠ b) : (a == b) = false := beq_eq_false_iff_ne.2 h

end Go.Proofs.YtaeelanbkdkppaaDoor

/-
  All: the walk.
-/
namespace Go.Proofs.YtaeelanbkdkppaaDoor
open Go.RowKit Go.Shelf

attribute [local go_sem] Oper.semAt_some

set_option maxRecDepth 100000 in
set_option maxHeartbeats 4000000 in
theorem all_any (a b : Gr) (An : Option Addr) (cn : Nat) (Ae : Option Addr) (ce : Nat) (Bn : Option Addr) (dn : Nat) (Be : Option Addr) (de : Nat) (w : World) (h00 : 0 < w.heap.size) (hT : TabW w) (hTa : GrAt w An cn Ae ce a) (hTb : GrAt w Bn dn Be de b) :
    Calls Tryd.prog 31 #[gval An a.ns.length cn Ae a.es.length ce, gval Bn b.ns.length dn Be b.es.length de] w fun e w' => (∃ v, e = .returned (.tuple #[v, .int .i64 (allE a b : Int)]) ∧ IsP w' v (allS a b)) ∧ Below w.heap.size w w' := by
  have HCZ := Lib.hid (fun h => chk_zero (a := a) (b := b) h)
  have HAE : Hid (allE a b = if chkE a b ≠ 0 then chkE a b else if 2000 < (allR a b).length then 3 else 0) := Lib.hid rfl
  have HAS : Hid (allS a b = if allE a b = 0 then allR a b else []) := Lib.hid rfl
  have HC := Lib.hid (fun (u : World) (hu : Below w.heap.size w u) => chkM_any a b An cn Ae ce Bn dn Be de u (hTa.up hu) (hTb.up hu))
  have HTA := Lib.hid hTa
  have HTB := Lib.hid hTb
  have HT := Lib.hid hT
  clear hT hTa hTb
  generalize allE a b = E at *
  generalize allS a b = L at *
  generalize chkE a b = z at *
  refine (callsIn_wide (n := 6)).1 ?_
  refine callsIn_of_wp_marks Tryd.func31 rfl trivial ?_ rfl
  simp only [Tryd.ntmps31, List.size_toArray, List.length_cons, List.length_nil, Nat.reduceAdd, Nat.reduceSub, Array.replicate_succ, Array.replicate_zero, List.push_toArray, List.append_toArray, List.nil_append, List.cons_append]
  gi_upto_region 1 with fail
  generalize hW0 : (((w.alloc _).alloc _).alloc _).alloc _ = W0
  have hB : Below w.heap.size w W0 := by
    rw [← hW0]
    refine Below.alloc (Below.alloc (Below.alloc (Below.alloc (Below.refl _ _) ?_ _) ?_ _) ?_ _) ?_ _ <;> simp <;> omega
  have hs : W0.heap.size = w.heap.size + 4 := by rw [← hW0]; simp
  have b1 : W0.heap[w.heap.size]? = some (.cells #[.slice An a.ns.length cn, .slice Ae a.es.length ce] 25 (0, 0)) := by rw [← hW0]; simp only [at_alloc, size_alloc]; repeat (first | rfl | (split; · (first | rfl | omega)))
  have b2 : W0.heap[w.heap.size + 1]? = some (.cells #[.slice Bn b.ns.length dn, .slice Be b.es.length de] 25 (0, 0)) := by rw [← hW0]; simp only [at_alloc, size_alloc]; repeat (first | rfl | (split; · (first | rfl | omega)))
  have b3 : Boxed W0 (w.heap.size + 1 + 1) 48 (.slice none 0 0) := by rw [← hW0]; simp only [Boxed, at_alloc, size_alloc]; repeat (first | rfl | (split; · (first | rfl | omega)))
  have b4 : Boxed W0 (w.heap.size + 1 + 1 + 1) 32 (.int .i64 0) := by rw [← hW0]; simp only [Boxed, at_alloc, size_alloc]; repeat (first | rfl | (split; · (first | rfl | omega)))
  clear hW0
  have HC0 := Lib.hid (HC.out W0 hB)
  have HB := Lib.hid hB
  have HB1 := Lib.hid b1
  have HB2 := Lib.hid b2
  have HB3 := Lib.hid b3
  have HB4 := Lib.hid b4
  obtain ⟨p1, p2⟩ := cell2 b1
  obtain ⟨p3, p4⟩ := cell2 b2
  clear hB b1 b2 b3 b4 HC
  gi_upto_region 2 with (refine ⟨trivial, ?_⟩; gi_at_call 38; refine (callsIn_wide.2 HC0.out).mono ?_; rintro e w1 ⟨rfl, hb1⟩)
  obtain ⟨rl, hrl⟩ : ∃ rl, rl = w.heap.size + 1 + 1 := ⟨_, rfl⟩
  obtain ⟨re, hre⟩ : ∃ re, re = w.heap.size + 1 + 1 + 1 := ⟨_, rfl⟩
  rw [← hre, ← hrl]
  rw [← hre] at HB4
  rw [← hrl] at HB3
  have hs1 : w.heap.size + 4 ≤ w1.heap.size := by have := hb1.size; omega
  have HBW : Hid (Below w.heap.size w w1) := Lib.hid (HB.out.trans (hb1.mono (by omega)))
  have q1 := heap_up hb1 HB1.out
  have q2 := heap_up hb1 HB2.out
  have q3 : Boxed w1 rl 48 (.slice none 0 0) := heap_up hb1 HB3.out
  have q4 : Boxed w1 re 32 (.int .i64 0) := heap_up hb1 HB4.out
  have HRL := Lib.hid hrl
  have HRE := Lib.hid hre
  clear hb1 HB HB1 HB2 HB3 HB4 p1 p2 p3 p4 HC0 hs W0 hrl hre
  by_cases hz : z = 0
  case neg =>
    have t1 : ((z : Int) != 0) = true := by simp; omega
    have HEE := Lib.hid (show E = z by rw [HAE.out, if_pos hz])
    have HLL := Lib.hid (show L = [] by rw [HAS.out, HEE.out, if_neg hz])
    have x3 := q3.cell
    have x3f := q3.frozen
    have x4 := q4.cell
    have x4f := q4.frozen
    have hne : rl ≠ re := by have := HRL.out; have := HRE.out; omega
    have HQ3 := Lib.hid q3
    have HQ4 := Lib.hid q4
    clear q1 q2 q3 q4 hz HAE HAS
    gi_wp2
    rw [HLL.out]
    exact ⟨_, results_le rfl _ _ rl re rfl rfl ((heap_setCell_other _ _ _ _ hne).trans (HQ3.out.set (.slice none 0 0))) (by
      have hb : Boxed (w1.setCell ⟨rl, 0, none⟩ (.slice none 0 0)) re 32 (.int .i64 0) := (heap_setCell_other _ _ _ _ (fun e => hne e.symm)).trans HQ4.out
      exact hb.set _), ⟨_, by rw [HEE.out], isP_nil _⟩, (HBW.out.setCell (p := ⟨rl, 0, none⟩) (by have := HRL.out; show w.heap.size ≤ rl; omega) _).setCell (p := ⟨re, 0, none⟩) (by have := HRE.out; show w.heap.size ≤ re; omega) _⟩
  subst hz
  obtain ⟨hva, hvb⟩ := HCZ.out rfl
  have HQ1 := Lib.hid q1
  have HQ2 := Lib.hid q2
  have HQ3 := Lib.hid q3
  have HQ4 := Lib.hid q4
  have HEE : Hid (E = if 2000 < (allR a b).length then 3 else 0) := Lib.hid (by rw [HAE.out, if_neg (fun h => h rfl)])
  clear q1 q2 q3 q4 HAE HCZ
  gi_upto_region 5 with fail
  generalize hW2 : w1.alloc _ = W2
  obtain ⟨lb, hlb⟩ : ∃ lb, lb = w1.heap.size := ⟨_, rfl⟩
  have hb2 : Below w1.heap.size w1 W2 := by rw [← hW2]; exact (Below.refl _ _).alloc (Nat.le_refl _) _
  have r7 : Boxed W2 lb 48 (.slice none 0 0) := by rw [← hW2, hlb]; exact Boxed.new w1 _ _
  have hs2 : W2.heap.size = w1.heap.size + 1 := by rw [← hW2]; simp
  rw [← hlb]
  have HS2 := Lib.hid hs2
  have HLB := Lib.hid hlb
  have r1 := heap_up hb2 HQ1.out
  have r2 := heap_up hb2 HQ2.out
  have HR3 : Hid (Boxed W2 rl 48 (.slice none 0 0)) := Lib.hid (heap_up hb2 HQ3.out)
  have HR4 : Hid (Boxed W2 re 32 (.int .i64 0)) := Lib.hid (heap_up hb2 HQ4.out)
  have HR7 := Lib.hid r7
  have HB2 : Hid (Below w.heap.size w W2) := Lib.hid (HBW.out.trans (hb2.mono (by omega)))
  obtain ⟨p1, p2⟩ := cell2 r1
  obtain ⟨p3, p4⟩ := cell2 r2
  have HMM := Lib.hid (morphisms_any (.slice An a.ns.length cn) (.slice Ae a.es.length ce) (.slice Bn b.ns.length dn) (.slice Be b.es.length de) W2)
  clear hW2 hb2 r1 r2 r7 HQ1 HQ2 HQ3 HQ4 hlb hs2
  gi_wp2_with (refine ⟨trivial, ?_⟩; gi_at_call 56; refine (callsIn_wide.2 HMM.out).mono ?_; rintro e w3 ⟨rfl, hw3⟩)
  obtain ⟨W3, hW3⟩ : ∃ W3, W3 = w3 := ⟨_, rfl⟩
  rw [← hw3, ← hW3]
  have hb3 : Below W2.heap.size W2 W3 := by rw [hW3, hw3]; exact ((Below.refl _ _).alloc (Nat.le_refl _) _).alloc (by simp) _
  have ga : W3.heap[W2.heap.size]? = some (.cells #[.slice An a.ns.length cn, .slice Ae a.es.length ce] 25 (0, 0)) := by rw [hW3, hw3]; exact heap_two _ _ _
  have gb : W3.heap[W2.heap.size + 1]? = some (.cells #[.slice Bn b.ns.length dn, .slice Be b.es.length de] 25 (0, 0)) := by rw [hW3, hw3]; exact heap_two' _ _ _
  have hs3 : W3.heap.size = W2.heap.size + 2 := by rw [hW3, hw3]; simp
  have hbW : Below w.heap.size w W3 := HB2.out.trans (hb3.mono HB2.out.size)
  have k3 : Boxed W3 rl 48 (.slice none 0 0) := heap_up hb3 HR3.out
  have k4 : Boxed W3 re 32 (.int .i64 0) := heap_up hb3 HR4.out
  have k7 : Boxed W3 lb 48 (.slice none 0 0) := heap_up hb3 HR7.out
  clear hW3 hw3 p1 p2 p3 p4 HMM hb3 HR3 HR4 HR7
  have hMV := morphisms_visits a b hva hvb An cn Ae ce Bn dn Be de W2.heap.size (W2.heap.size + 1) w W3 h00 HT.out HTA.out HTB.out hbW ga gb
  have HBW3 := Lib.hid hbW
  have hrl := HRL.out
  have hre := HRE.out
  have hlb := HLB.out
  have hs2 := HS2.out
  have hJ0 : AllJ w.heap.size lb rl re [] (fun k => k = lb ∨ k = rl ∨ k = re) W3 (fun _ => False) (.slice none 0 0) :=
    ⟨k7, RowM.nil _ _ _, k3, k4, fun k h => (by cases h), fun k h => h.elim, .inl rfl, .inr (.inl rfl), .inr (.inr rfl), fun k h => (by rcases h with h | h | h <;> omega), fun k h => (by rcases h with h | h | h <;> omega), by simp⟩
  have HS3 := Lib.hid hs3
  have HEQ : Hid (allP a b = allR a b) := Lib.hid (allP_eq hva hvb)
  refine wpIn_visits (gf := 68) (ba := #[]) (lb := #[.pointer (some ⟨W2.heap.size, 0, none⟩), .pointer (some ⟨W2.heap.size + 1, 0, none⟩)]) rfl (enters_of Tryd.func68 (by kernel_rfl) rfl) hMV (fun x G V vs h => by obtain ⟨v, u, h, _⟩ := h; rw [h]; rfl)
    (fun pre H V => ∃ M v, AllJ w.heap.size lb rl re pre H V M v) (fun code H V => IsRet code ∧ AllX (2000 < (allP a b).length) w.heap.size rl re H V) (fun _ => AllJ.foot) (fun _ => AllX.foot.pure _) (fun k => k = lb ∨ k = rl ∨ k = re) ⟨_, _, hJ0⟩ ?hO ?round ?done ?stop
  case hO =>
    rintro k (h | h | h)
    · exact ⟨fun h2 => by rcases h2 with h2 | h2 | h2 <;> omega, by omega⟩
    · exact ⟨fun h2 => by rcases h2 with h2 | h2 | h2 <;> omega, by omega⟩
    · exact ⟨fun h2 => by rcases h2 with h2 | h2 | h2 <;> omega, by omega⟩
  case round =>
    rintro l pre x H G vs V K hl ⟨r0, hr⟩ hHl hGl ⟨M, v, hA⟩ hx ⟨v1, v2, rfl, i1, i2, hGB⟩ hGa hK
    obtain ⟨A1, c1, e1, _⟩ := id i1
    obtain ⟨A2, c2, e2, _⟩ := id i2
    subst e1 e2
    have HI1 := Lib.hid i1
    have HI2 := Lib.hid i2
    have HA := Lib.hid hA
    have HR := Lib.hid hr
    have HX := Lib.hid hx
    have HGB := Lib.hid hGB
    have HGA := Lib.hid hGa
    have HLL := Lib.hid hl
    have HHL := Lib.hid hHl
    have HGL := Lib.hid hGl
    clear hrl hre hlb hs2 hs3 i1 i2 hA hr hx hGB hGa hl hHl hGl hMV hbW
    dsimp only
    gi_wp2
    refine hK _ _ (keeps_alloc _ _ _) fun r => ?_
    have hlV : l < V.heap.size := heap_lt HR.out
    have hu : ∀ k, k < V.heap.size → k ≠ l → ((V.alloc (.cells #[.slice A1 x.ns.length c1, .slice A2 x.es.length c2] 27)).putObj l (.loop r)).heap[k]? = V.heap[k]? := fun k h1 h2 => (World.putObj_heap_other h2).trans (Below.heap_alloc V _ k h1)
    have hnb : ((V.alloc (.cells #[.slice A1 x.ns.length c1, .slice A2 x.es.length c2] 27)).putObj l (.loop r)).heap[V.heap.size]? = some (.cells #[.slice A1 x.ns.length c1, .slice A2 x.es.length c2] 27 (0, 0)) := (World.putObj_heap_other (by omega)).trans (heap_alloc_new _ _)
    have hsU : ((V.alloc (.cells #[.slice A1 x.ns.length c1, .slice A2 x.es.length c2] 27)).putObj l (.loop r)).heap.size = V.heap.size + 1 := by simp
    generalize (V.alloc (.cells #[.slice A1 x.ns.length c1, .slice A2 x.es.length c2] 27)).putObj l (.loop r) = U at *
    have kA : AllJ w.heap.size lb rl re pre H U M v := HA.out.keep (by omega) fun k hk => hu k (HA.out.lt k hk) (fun e => HHL.out (e ▸ hk))
    have kI1 : InG G U (.slice A1 x.ns.length c1) x.ns := HI1.out.up (by omega) fun k h1 h2 => hu k h2 (fun e => HGL.out (e ▸ h1))
    have kI2 : InG G U (.slice A2 x.es.length c2) x.es := HI2.out.up (by omega) fun k h1 h2 => hu k h2 (fun e => HGL.out (e ▸ h1))
    obtain ⟨vs, hown, hvs⟩ := kA.row
    obtain ⟨rA, rc, rfl⟩ := slice_of hown
    have x7 := kA.box.cell
    have x7f := kA.box.frozen
    obtain ⟨y1, y2⟩ := cell2 hnb
    have x3 := kA.brl.cell
    have x3f := kA.brl.frozen
    have x4 := kA.bre.cell
    have x4f := kA.bre.frozen
    have hne : rl ≠ re := by have := HRL.out; have := HRE.out; omega
    have hne' : re ≠ rl := fun e => hne e.symm
    have HKA := Lib.hid kA
    have HSU := Lib.hid hsU
    have HHN : Hid (rl ≠ lb ∧ re ≠ lb) := Lib.hid ⟨by have := HRL.out; have := HLB.out; omega, by have := HRE.out; have := HLB.out; omega⟩
    by_cases hlen : pre.length = 2000
    · have t : ((pre.length : Int) == 2000) = true := by simp [hlen]
      have hbr : Boxed (U.setCell ⟨rl, 0, none⟩ (.slice none 0 0)) re 32 (.int .i64 0) := (heap_setCell_other _ _ _ _ hne').trans kA.bre
      have HEND : Hid (Keeps (fun k => H k ∨ G k) U ((U.setCell ⟨rl, 0, none⟩ (.slice none 0 0)).setCell ⟨re, 0, none⟩ (.int .i64 3)) ∧ AllX (2000 < (allP a b).length) w.heap.size rl re H ((U.setCell ⟨rl, 0, none⟩ (.slice none 0 0)).setCell ⟨re, 0, none⟩ (.int .i64 3))) := by
        refine Lib.hid ⟨(keeps_setCell (H := fun k => H k ∨ G k) U ⟨rl, 0, none⟩ _ (.inl kA.hrl)).trans (keeps_setCell (H := fun k => H k ∨ G k) _ ⟨re, 0, none⟩ _ (.inl kA.hre)) fun _ _ h => h, ?_, (heap_setCell_other _ _ _ _ hne).trans (kA.brl.set _), hbr.set _, kA.hrl, kA.hre, fun k hk => ?_⟩
        · have := HX.out.length_le
          simp at this
          omega
        · have := kA.lt k hk
          simpa [World.setCell] using this
      clear hlen hbr kI1 kI2 hown hvs hu hnb y1 y2 kA hsU
      gi_wp2
      exact ⟨HEND.out.1, H, fun k h => .inl (.inl h), rfl, HEND.out.2⟩
    · have t : ((pre.length : Int) == 2000) = false := ne_beq (by omega)
      have hl3 := kA.len
      have HOA := Lib.hid (World.ownsRow.alloc hown (.cells #[.slice A1 x.ns.length c1, .slice A2 x.es.length c2] 27))
      have hcn := cell2 (heap_alloc_new U (.cells #[.slice A1 x.ns.length c1, .slice A2 x.es.length c2] 27))
      rw [hsU] at hcn
      have HC1 := Lib.hid hcn.1
      have HC2 := Lib.hid hcn.2
      have HVS := Lib.hid hvs
      have HKI1 := Lib.hid kI1
      have HKI2 := Lib.hid kI2
      have HOW := Lib.hid hown
      have HL3 : Hid (pre.length < 2000) := Lib.hid (by omega)
      have HGG : Hid (∀ k, G k → ¬ H k ∧ k < U.heap.size) := Lib.hid fun k h => ⟨(HGA.out k h).1, by have := (HGA.out k h).2; omega⟩
      have HGE : Hid (∀ k, G k → w.heap.size ≤ k) := Lib.hid fun k h => Nat.le_trans HBW3.out.size (HGB.out k h)
      have HWU : Hid (w.heap.size ≤ U.heap.size) := Lib.hid (by have := kA.lt _ kA.hl; have := kA.ge _ kA.hl; omega)
      have HBA : Hid (Below U.heap.size U (U.alloc (.cells #[.slice A1 x.ns.length c1, .slice A2 x.es.length c2] 27))) := Lib.hid ((Below.refl _ _).alloc (Nat.le_refl _) _)
      have HFL : Hid ((Value.slice rA pre.length rc).ownBlock ≠ some lb) := Lib.hid (kA.row.far kA.box (by decide))
      clear hlen kI1 kI2 hown hvs hu hnb x3 x3f x4 x4f kA hcn
      gi_wp2_with (first | (with_reducible refine wpListIn_append_mor rfl _ _ rfl w.heap.size (.slice rA pre.length rc) pre.length vs rfl HOA.out (V.heap.size + 1) 1 _ _ rfl HC1.out HC2.out rfl rfl (by omega) (Nat.le_trans HWU.out HBA.out.size) ?_) | (intro v' w2 r1 r2 r3; have q7 : Boxed w2 lb 48 (.slice rA pre.length rc) := (r2.block lb (Nat.lt_of_lt_of_le (HKA.out.lt _ HKA.out.hl) HBA.out.size) (fun e => HFL.out e.symm)).trans ((HBA.out.block lb (HKA.out.lt _ HKA.out.hl)).trans HKA.out.box); have q7c := q7.cell; have q7f := q7.frozen; have HEND := Lib.hid (all_next (G := G) HKA.out HL3.out HGG.out HGE.out HKI1.out HKI2.out HHN.out HWU.out HBA.out HVS.out HOW.out r1 r2 r3); obtain ⟨a6, c6, hv6⟩ := slice_of r1; subst hv6; clear r1 r2 r3 q7))
      exact ⟨HEND.out.1, HEND.out.2.choose, fun k h => (HEND.out.2.choose_spec.1 k h).imp id (fun h => by have := HSU.out; omega), HEND.out.2.choose_spec.2⟩
  case done =>
    rintro D H Wf hD hHD hg ⟨M, v, hA⟩ hk hKd
    have hDW : w.heap.size ≤ D := by have := hbW.size; omega
    have nD : ∀ k, H k → k ≠ D := fun k h e => hHD (by rw [← e]; exact h)
    obtain ⟨vs, hown, hvs⟩ := id hA.row
    obtain ⟨rA, rc, hve⟩ := slice_of hown
    have x7 := hA.box.cell
    have x3 := hA.brl.cell
    have x3f := hA.brl.frozen
    have hne : rl ≠ re := by omega
    have hb1 : Boxed (Wf.setCell ⟨rl, 0, none⟩ v) re 32 (.int .i64 0) := (heap_setCell_other _ _ _ _ (fun e => hne e.symm)).trans hA.bre
    have x4 := hb1.cell
    have x4f := hb1.frozen
    have hwf : W3.heap.size ≤ Wf.heap.size := hk.size
    have hbF : Below w.heap.size w (((Wf.setCell ⟨rl, 0, none⟩ v).setCell ⟨re, 0, none⟩ (.int .i64 0)).putObj D (.deferred none)) := by
      have h1 : Below w.heap.size w Wf := hbW.trans (hk.below hbW.size fun i hi h => by rcases h with h | h | h <;> omega)
      have h2 := (h1.setCell (p := ⟨rl, 0, none⟩) (by show w.heap.size ≤ rl; omega) v).setCell (p := ⟨re, 0, none⟩) (by show w.heap.size ≤ re; omega) (.int .i64 0)
      exact h2.trans ⟨rfl, rfl, rfl, by simp, fun k hk => World.putObj_heap_other (by omega)⟩
    have HDF : Hid (((Wf.setCell ⟨rl, 0, none⟩ v).setCell ⟨re, 0, none⟩ (.int .i64 0)).heap[D]? = some (.deferred (some []))) := Lib.hid ((heap_setCell_other _ _ _ _ (nD _ hA.hre).symm).trans ((heap_setCell_other _ _ _ _ (nD _ hA.hrl).symm).trans hKd))
    have oth : ∀ k, k ≠ rl → k ≠ re → k ≠ D → (((Wf.setCell ⟨rl, 0, none⟩ v).setCell ⟨re, 0, none⟩ (.int .i64 0)).putObj D (.deferred none)).heap[k]? = Wf.heap[k]? := fun k h1 h2 h3 => (World.putObj_heap_other h3).trans ((heap_setCell_other _ _ _ _ h2).trans (heap_setCell_other _ _ _ _ h1))
    have hRow : RowM w.heap.size M (((Wf.setCell ⟨rl, 0, none⟩ v).setCell ⟨re, 0, none⟩ (.int .i64 0)).putObj D (.deferred none)) v (allP a b) := by
      refine hA.row.same (by simp [World.setCell]) (fun g hg => oth g (fun e => hA.row.far hA.brl (by decide) (e ▸ hg)) (fun e => hA.row.far hA.bre (by decide) (e ▸ hg)) (nD _ (hA.own g hg).1)) (fun k hm _ => oth k (hA.mh k hm).2.2.1 (hA.mh k hm).2.2.2 (nD _ (hA.mh k hm).1))
    have hP := hRow.isP
    have hle : ¬ 2000 < (allR a b).length := by rw [← HEQ.out]; have := hA.len; omega
    have he : E = 0 := by rw [HEE.out, if_neg hle]
    have hL : L = allP a b := by rw [HAS.out, he, if_pos rfl, HEQ.out]
    rw [← hL] at hP
    have HP := Lib.hid hP
    have HB := Lib.hid hbF
    have HE := Lib.hid he
    have HZ1 : Hid (Boxed (((Wf.setCell ⟨rl, 0, none⟩ v).setCell ⟨re, 0, none⟩ (.int .i64 0)).putObj D (.deferred none)) rl 48 v) := Lib.hid ((World.putObj_heap_other (nD _ hA.hrl)).trans ((heap_setCell_other _ _ _ _ hne).trans (hA.brl.set v)))
    have HZ2 : Hid (Boxed (((Wf.setCell ⟨rl, 0, none⟩ v).setCell ⟨re, 0, none⟩ (.int .i64 0)).putObj D (.deferred none)) re 32 (.int .i64 0)) := Lib.hid ((World.putObj_heap_other (nD _ hA.hre)).trans (hb1.set _))
    have hne' : re ≠ rl := fun e => hne e.symm
    clear hL he hP hbF hRow oth hle hb1 hA hown hvs hk hKd hg hHD nD hbW hMV hJ0 k3 k4 k7 ga gb hrl hre hlb hs2 hs3 hwf hDW
    subst hve
    gi_wp2
    refine ⟨by simp, .inl ⟨_, _, rfl, run_takeDeferred HDF.out, ?_⟩⟩
    exact ⟨_, results_le rfl _ _ rl re rfl rfl HZ1.out HZ2.out, ⟨_, by rw [HE.out]; rfl, HP.out⟩, HB.out⟩
  case stop =>
    rintro D code H Wf hD hHD hg ⟨rfl, hX⟩ hk hKd
    have nD : ∀ k, H k → k ≠ D := fun k h e => hHD (by rw [← e]; exact h)
    have hbF : Below w.heap.size w (Wf.putObj D (.deferred none)) := by
      have h1 : Below w.heap.size w Wf := hbW.trans (hk.below hbW.size fun i hi h => by rcases h with h | h | h <;> omega)
      exact h1.trans ⟨rfl, rfl, rfl, by simp, fun k hk => World.putObj_heap_other (by have := hbW.size; omega)⟩
    have hbig : 2000 < (allR a b).length := by rw [← HEQ.out]; exact hX.big
    have he : E = 3 := by rw [HEE.out, if_pos hbig]
    have hL : L = [] := by rw [HAS.out, he, if_neg (by decide)]
    have HB := Lib.hid hbF
    have HE := Lib.hid he
    have HL := Lib.hid hL
    have HKD := Lib.hid hKd
    have HZ1 : Hid (Boxed (Wf.putObj D (.deferred none)) rl 48 (.slice none 0 0)) := Lib.hid ((World.putObj_heap_other (nD _ hX.hrl)).trans hX.brl)
    have HZ2 : Hid (Boxed (Wf.putObj D (.deferred none)) re 32 (.int .i64 3)) := Lib.hid ((World.putObj_heap_other (nD _ hX.hre)).trans hX.bre)
    clear hL he hbF hbig hX hk hKd hg hHD nD hbW hMV hJ0 k3 k4 k7 ga gb hrl hre hlb hs2 hs3
    gi_wp2
    refine ⟨by simp, .inl ⟨_, _, rfl, run_takeDeferred HKD.out, ?_⟩⟩
    exact ⟨_, results_le rfl _ _ rl re rfl rfl HZ1.out HZ2.out, ⟨_, by rw [HE.out]; rfl, by rw [HL.out]; exact isP_nil _⟩, HB.out⟩

end Go.Proofs.YtaeelanbkdkppaaDoor

/-
  The program's Valid.
-/
namespace Go.Proofs.YtaeelanbkdkppaaDoor
open Go.RowKit Go.Shelf

/-- the three boxes of a call that is given two graphs and a morphism -/
def VS (B : Nat) (v1 v2 v3 v4 v5 v6 : Value) (w u : World) : Prop :=
  u.heap[B]? = some (.cells #[v1, v2] 25 (0, 0)) ∧ u.heap[B + 1]? = some (.cells #[v3, v4] 25 (0, 0)) ∧ u.heap[B + 2]? = some (.cells #[v5, v6] 27 (0, 0)) ∧ Below w.heap.size w u ∧ B = w.heap.size
theorem VS.up {B : Nat} {v1 v2 v3 v4 v5 v6 : Value} {w u u' : World} (h : VS B v1 v2 v3 v4 v5 v6 w u) (hb : Below u.heap.size u u') : VS B v1 v2 v3 v4 v5 v6 w u' :=
  ⟨heap_up hb h.1, heap_up hb h.2.1, heap_up hb h.2.2.1, h.2.2.2.1.trans (hb.mono h.2.2.2.1.size), h.2.2.2.2⟩
theorem VS.cells {B : Nat} {v1 v2 v3 v4 v5 v6 : Value} {w u : World} (h : VS B v1 v2 v3 v4 v5 v6 w u) : u.cell? ⟨B, 0, none⟩ = some v1 ∧ u.cell? ⟨B, 1, none⟩ = some v2 ∧ u.cell? ⟨B + 1, 0, none⟩ = some v3 ∧ u.cell? ⟨B + 1, 1, none⟩ = some v4 ∧ u.cell? ⟨B + 2, 0, none⟩ = some v5 ∧ u.cell? ⟨B + 2, 1, none⟩ = some v6 :=
  ⟨(cell2 h.1).1, (cell2 h.1).2, (cell2 h.2.1).1, (cell2 h.2.1).2, (cell2 h.2.2.1).1, (cell2 h.2.2.1).2⟩
theorem VS.new (w : World) (v1 v2 v3 v4 v5 v6 : Value) : VS w.heap.size v1 v2 v3 v4 v5 v6 w (((w.alloc (.cells #[v1, v2] 25 (0, 0))).alloc (.cells #[v3, v4] 25 (0, 0))).alloc (.cells #[v5, v6] 27 (0, 0))) := by
  refine ⟨?_, ?_, ?_, ?_, rfl⟩
  · simp only [at_alloc, size_alloc]; repeat (first | rfl | (split; · (first | rfl | omega)))
  · simp only [at_alloc, size_alloc]; repeat (first | rfl | (split; · (first | rfl | omega)))
  · simp only [at_alloc, size_alloc]; repeat (first | rfl | (split; · (first | rfl | omega)))
  · refine Below.alloc (Below.alloc (Below.alloc (Below.refl _ _) ?_ _) ?_ _) ?_ _ <;> simp <;> omega

set_option maxRecDepth 100000 in
set_option maxHeartbeats 4000000 in
theorem validM_any (a b : Gr) (m : Mo) (An : Option Addr) (cn : Nat) (Ae : Option Addr) (ce : Nat) (Bn : Option Addr) (dn : Nat) (Be : Option Addr) (de : Nat) (Mn : Option Addr) (mn : Nat) (Me : Option Addr) (me : Nat) (w : World)
    (hT : GrAt w An cn Ae ce a) (hU : GrAt w Bn dn Be de b) (hM : Ints w w.heap.size Mn m.ns) (hN : Ints w w.heap.size Me m.es) (hl1 : m.ns.length ≤ 1000) (hl2 : m.es.length ≤ 1000) :
    Calls Tryd.prog 12 #[gval An a.ns.length cn Ae a.es.length ce, gval Bn b.ns.length dn Be b.es.length de, gval Mn m.ns.length mn Me m.es.length me] w fun e w' => e = .returned (.int .i64 (morE a b m)) ∧ Below w.heap.size w w' := by
  obtain ⟨B, hB⟩ : ∃ B, B = w.heap.size := ⟨_, rfl⟩
  have hV0 := VS.new w (.slice An a.ns.length cn) (.slice Ae a.es.length ce) (.slice Bn b.ns.length dn) (.slice Be b.es.length de) (.slice Mn m.ns.length mn) (.slice Me m.es.length me)
  rw [← hB] at hV0
  have HV0 := Lib.hid hV0
  have HC := Lib.hid (fun (u : World) (hu : Below w.heap.size w u) => chkM_any a b An cn Ae ce Bn dn Be de u (hT.up hu) (hU.up hu))
  have HR : Hid (morE a b m = if chkE a b ≠ 0 then chkE a b else if m.ns.length ≠ a.ns.length ∨ m.es.length ≠ a.es.length then 20
      else if fstN (mnAt a b m) 0 a.ns.length ≠ 0 then fstN (mnAt a b m) 0 a.ns.length else fstN (meAt a b m) 0 a.es.length) := Lib.hid (by
    unfold morE chkE
    by_cases h1 : validE a = 0
    · simp [h1]
    · simp [h1])
  have HCZ := Lib.hid (fun h => valid_zero (g := a) h)
  have HCV : Hid (chkE a b = 0 → validE a = 0) := Lib.hid (by unfold chkE; split <;> intro h <;> omega)
  have HT := Lib.hid hT
  have HU := Lib.hid hU
  have HM := Lib.hid hM
  have HN := Lib.hid hN
  have HVE := Lib.hid (fun (h : validE a = 0) i (hi : i < a.es.length) => valid_at h hi)
  clear hT hU hM hN hV0
  generalize morE a b m = R at HR ⊢
  generalize chkE a b = z at *
  have HBW := Lib.hid hB
  go_enter Tryd.func12, Tryd.ntmps12
  go_wp2_with fail
  refine (HC.out _ HV0.out.2.2.2.1).mono ?_
  rintro e w1 ⟨rfl, hb1⟩
  have hV := HV0.out.up hb1
  clear hb1 HV0 HC
  have HV := Lib.hid hV
  have hp := hV.cells
  rw [hB] at hp
  obtain ⟨p1, p2, p3, p4, p5, p6⟩ := hp
  clear hV hB
  by_cases hz : z = 0
  case neg =>
    have HRR := Lib.hid (show R = z by rw [HR.out, if_pos hz])
    have t1 : ((z : Int) != 0) = true := by simp; omega
    clear hz
    go_wp2_with fail
    go_ret
    exact ⟨ret_int (by rw [HRR.out]), HV.out.2.2.2.1⟩
  subst hz
  have HR1 := Lib.hid (show R = if m.ns.length ≠ a.ns.length ∨ m.es.length ≠ a.es.length then 20 else if fstN (mnAt a b m) 0 a.ns.length ≠ 0 then fstN (mnAt a b m) 0 a.ns.length else fstN (meAt a b m) 0 a.es.length by rw [HR.out, if_neg (fun h => h rfl)])
  clear HR
  by_cases h1 : m.ns.length = a.ns.length
  case neg =>
    have HRR := Lib.hid (show R = 20 by rw [HR1.out, if_pos (.inl h1)])
    have t1 : ((m.ns.length : Int) != (a.ns.length : Int)) = true := by simp; omega
    clear h1
    go_wp2_with fail
    go_ret
    exact ⟨ret_int (by rw [HRR.out]; rfl), HV.out.2.2.2.1⟩
  by_cases h2 : m.es.length = a.es.length
  case neg =>
    have HRR := Lib.hid (show R = 20 by rw [HR1.out, if_pos (.inr h2)])
    have t1 : ((m.ns.length : Int) != (a.ns.length : Int)) = false := by simp; omega
    have t2 : ((m.es.length : Int) != (a.es.length : Int)) = true := by simp; omega
    clear h1 h2
    go_wp2_with fail
    go_ret
    exact ⟨ret_int (by rw [HRR.out]; rfl), HV.out.2.2.2.1⟩
  have HR2 := Lib.hid (show R = if fstN (mnAt a b m) 0 a.ns.length ≠ 0 then fstN (mnAt a b m) 0 a.ns.length else fstN (meAt a b m) 0 a.es.length by rw [HR1.out, if_neg (fun h => h.elim (fun h => h h1) (fun h => h h2))])
  have t1 : ((m.ns.length : Int) != (a.ns.length : Int)) = false := by simp; omega
  have t2 : ((m.es.length : Int) != (a.es.length : Int)) = false := by simp; omega
  have HL1 := Lib.hid h1
  have HL2 := Lib.hid h2
  have HVA := Lib.hid (HVE.out (HCV.out rfl))
  obtain ⟨n40, e80, _⟩ := HCZ.out (HCV.out rfl)
  clear HR1 HCZ HCV HVE h1 h2
  have HHIT := Lib.hid (fun k (h : k < a.ns.length) hf => fstN_hit (f := mnAt a b m) h hf)
  have HPASS := Lib.hid (fun k (h : k < a.ns.length) hf => fstN_pass (f := mnAt a b m) h hf)
  have HEND := Lib.hid (fun k (h : a.ns.length ≤ k) => fstN_end (f := mnAt a b m) h)
  have HF : Hid (∀ k, mnAt a b m k = if idxB (m.ns.getD k 0) b.ns.length = false then 6 else if b.ns.getD (m.ns.getD k 0).toNat 0 ≠ a.ns.getD k 0 then 13 else 0) := Lib.hid fun k => rfl
  have HS0 : Hid (fstN (mnAt a b m) 0 a.ns.length = fstN (mnAt a b m) 0 (a.ns.length - 0)) := Lib.hid rfl
  obtain ⟨S, hS⟩ : ∃ S, S = fstN (mnAt a b m) 0 a.ns.length := ⟨_, rfl⟩
  rw [← hS] at HR2 HS0
  clear hS
  generalize mnAt a b m = f at *
  go_wp2_with fail
  clear t1 t2 p1 p2 p3 p4 p5 p6
  go_loopw [37] (fun v wr => ∃ k q : Nat, k ≤ m.ns.length ∧ v = .int .i64 (k : Int) ∧ S = fstN f k (a.ns.length - k) ∧ wr = w1.drewN q) (fun v _ => m.ns.length - (intOf v).toNat)
  case atStart => exact ⟨0, 0, Nat.zero_le _, rfl, HS0.out, rfl⟩
  case round =>
    obtain ⟨k, q, hk, rfl, hSk, rfl⟩ := hrel
    have HSK := Lib.hid hSk
    clear hSk
    have hp := HV.out.cells
    rw [HBW.out] at hp
    obtain ⟨p1, p2, p3, p4, p5, p6⟩ := hp
    by_cases hlt : k < m.ns.length
    · have hla : k < a.ns.length := by rw [← HL1.out]; exact hlt
      obtain ⟨g1, o1, rfl, hg1, hc1⟩ := Ints.cells (HM.out.below HV.out.2.2.2.1) hlt
      obtain ⟨g2, o2, rfl, hg2, hc2⟩ := Ints.cells (HT.out.ns.below HV.out.2.2.2.1) hla
      have c1 := hc1 k hlt
      have c2 := hc2 k hla
      have HFK := Lib.hid (HF.out k)
      have HCI := Lib.hid (fun u => isIndexM_any (m.ns.getD k 0) b.ns.length u)
      by_cases hi : idxB (m.ns.getD k 0) b.ns.length = true
      case neg =>
        have hi' : idxB (m.ns.getD k 0) b.ns.length = false := by simpa using hi
        have hf6 : f k = 6 := by rw [HFK.out, if_pos hi']
        have HRR := Lib.hid (show R = 6 by rw [HR2.out, HSK.out, HHIT.out k hla (by omega), hf6]; rfl)
        rw [hi'] at HCI
        clear hi hi' hf6 hc1 hc2 hla
        generalize m.ns.getD k 0 = x at *
        go_wp2_with fail
        refine (HCI.out _).mono ?_
        rintro e w' ⟨rfl, rfl⟩
        go_wp2_with fail
        go_ret
        exact ⟨ret_int (by rw [HRR.out]; rfl), below_draws HV.out.2.2.2.1 _⟩
      have hx := idxB_iff.1 hi
      obtain ⟨j, hj⟩ : ∃ j : Nat, m.ns.getD k 0 = (j : Int) := ⟨(m.ns.getD k 0).toNat, by omega⟩
      rw [hi] at HCI
      rw [hj] at c1 HCI hx hi HFK
      rw [Int.toNat_natCast] at HFK
      have hjl : j < b.ns.length := by omega
      obtain ⟨g3, o3, rfl, hg3, hc3⟩ := Ints.cells (HU.out.ns.below HV.out.2.2.2.1) hjl
      have c3 := hc3 j hjl
      have k0 : (0 : Int) ≤ (k : Int) := by omega
      have k1 : (k : Int) < (m.ns.length : Int) := by omega
      have k1' : (k : Int) < (a.ns.length : Int) := by omega
      have k2 : ((k : Int)).toNat = k := by omega
      have j0 : (0 : Int) ≤ (j : Int) := by omega
      have j1 : (j : Int) < (b.ns.length : Int) := by omega
      have j2 : ((j : Int)).toNat = j := by omega
      have HLA := Lib.hid hla
      have HI := Lib.hid hi
      clear hc1 hc2 hc3 hla hx hj hi
      by_cases he : b.ns.getD j 0 = a.ns.getD k 0
      case neg =>
        have hf : f k = 13 := by rw [HFK.out, if_neg (by rw [HI.out]; simp), if_pos he]
        have HRR := Lib.hid (show R = 13 by rw [HR2.out, HSK.out, HHIT.out k HLA.out (by omega), hf]; rfl)
        have t : (b.ns.getD j 0 != a.ns.getD k 0) = true := bne_iff_ne.2 he
        clear hf he
        generalize b.ns.getD j 0 = y at *
        generalize a.ns.getD k 0 = y2 at *
        go_wp2_with fail
        refine (HCI.out _).mono ?_
        rintro e w' ⟨rfl, rfl⟩
        go_wp2_with fail
        go_quiet (fail)
        go_wp2_with fail
        go_ret
        exact ⟨ret_int (by rw [HRR.out]; rfl), below_draws (below_draws HV.out.2.2.2.1 _) _⟩
      have hf : f k = 0 := by rw [HFK.out, if_neg (by rw [HI.out]; simp), if_neg (fun h => h he)]
      have HE := Lib.hid (show S = fstN f (k + 1) (a.ns.length - (k + 1)) by rw [HSK.out, HPASS.out k HLA.out hf])
      have t : (b.ns.getD j 0 != a.ns.getD k 0) = false := by rw [he]; exact bne_self_eq_false _
      clear hf he
      generalize b.ns.getD j 0 = y at *
      generalize a.ns.getD k 0 = y2 at *
      have HM2 : Hid (m.ns.length - ((k : Int) + 1).toNat < m.ns.length - ((k : Int)).toNat) := Lib.hid (by omega)
      go_wp2_with fail
      refine (HCI.out _).mono ?_
      rintro e w' ⟨rfl, rfl⟩
      go_wp2_with fail
      go_quiet (fail)
      go_wp2_with fail
      go_roundw
      case rel => exact ⟨k + 1, _, by omega, by go_num, HE.out, rfl⟩
      case measure => exact HM2.out
    · obtain rfl : k = m.ns.length := by omega
      have hS0 : S = 0 := by rw [HSK.out]; exact HEND.out _ (by rw [HL1.out]; exact Nat.le_refl _)
      have HR3 := Lib.hid (show R = fstN (meAt a b m) 0 a.es.length by rw [HR2.out, hS0]; simp)
      have HVD : Hid (VS B (.slice An a.ns.length cn) (.slice Ae a.es.length ce) (.slice Bn b.ns.length dn) (.slice Be b.es.length de) (.slice Mn m.ns.length mn) (.slice Me m.es.length me) w (w1.drewN q)) := Lib.hid (HV.out.up (below_draws (Below.refl _ _) q))
      have HB0 := Lib.hid HBW.out
      clear HR2 HSK HHIT HPASS HEND HF HS0 hS0 hlt hk HV
      have HHIT := Lib.hid (fun k (h : k < a.es.length) hf => fstN_hit (f := meAt a b m) h hf)
      have HPASS := Lib.hid (fun k (h : k < a.es.length) hf => fstN_pass (f := meAt a b m) h hf)
      have HEND := Lib.hid (fun k (h : a.es.length ≤ k) => fstN_end (f := meAt a b m) h)
      have HF : Hid (∀ k, meAt a b m k = if idxB (m.es.getD k 0) b.es.length = false then 6
          else if (a.es.getD k default).ty ≠ (b.es.getD (m.es.getD k 0).toNat default).ty then 13
          else if m.ns.getD (a.es.getD k default).fr.toNat 0 ≠ (b.es.getD (m.es.getD k 0).toNat default).fr ∨ m.ns.getD (a.es.getD k default).tq.toNat 0 ≠ (b.es.getD (m.es.getD k 0).toNat default).tq then 11 else 0) := Lib.hid fun k => rfl
      have HS0 : Hid (R = fstN (meAt a b m) 0 (a.es.length - 0)) := Lib.hid HR3.out
      clear HR3
      generalize meAt a b m = f at *
      go_wp2_with fail
      clear p1 p2 p3 p4 p5 p6
      go_loopw [65] (fun v wr => ∃ k : Nat, k ≤ m.es.length ∧ v = .int .i64 (k : Int) ∧ R = fstN f k (a.es.length - k) ∧ VS B (.slice An a.ns.length cn) (.slice Ae a.es.length ce) (.slice Bn b.ns.length dn) (.slice Be b.es.length de) (.slice Mn m.ns.length mn) (.slice Me m.es.length me) w wr) (fun v _ => m.es.length - (intOf v).toNat)
      case atStart => exact ⟨0, Nat.zero_le _, rfl, HS0.out, HVD.out⟩
      case round =>
        obtain ⟨k, hk, rfl, hRk, hV⟩ := hrel
        have HRK := Lib.hid hRk
        have HV := Lib.hid hV
        have hp := hV.cells
        have hbel := hV.2.2.2.1
        rw [HB0.out] at hp
        obtain ⟨p1, p2, p3, p4, p5, p6⟩ := hp
        clear hRk HS0 HVD hV
        by_cases hlt : k < m.es.length
        · have hla : k < a.es.length := by rw [← HL2.out]; exact hlt
          obtain ⟨g1, o1, rfl, hg1, hc1⟩ := Ints.cells (HN.out.below hbel) hlt
          obtain ⟨g2, o2, rfl, hg2, hc2⟩ := Eds.cells (HT.out.es.below hbel) hla
          have c1 := hc1 k hlt
          obtain ⟨d1, d2, d3⟩ := hc2 k hla
          have HFK := Lib.hid (HF.out k)
          have HCI := Lib.hid (fun u => isIndexM_any (m.es.getD k 0) b.es.length u)
          have hva := HVA.out k hla
          have HME := Lib.hid (fun (u : World) (hu : Below w.heap.size w u) => moveEnds_any (a.es.getD k default) m.ns Mn mn u w.heap.size (HM.out.below hu) (by have := HL1.out; omega) (by have := HL1.out; omega))
          by_cases hi : idxB (m.es.getD k 0) b.es.length = true
          case neg =>
            have hi' : idxB (m.es.getD k 0) b.es.length = false := by simpa using hi
            have hf6 : f k = 6 := by rw [HFK.out, if_pos hi']
            have HRR := Lib.hid (show R = 6 by rw [HRK.out, HHIT.out k hla (by omega), hf6])
            rw [hi'] at HCI
            clear hi hi' hf6 hc1 hc2 hla hbel hva
            generalize m.es.getD k 0 = x at *
            go_wp2_with fail
            refine (HCI.out _).mono ?_
            rintro e w' ⟨rfl, rfl⟩
            go_wp2_with fail
            go_ret
            exact ⟨ret_int (by rw [HRR.out]; rfl), HV.out.2.2.2.1⟩
          have hx := idxB_iff.1 hi
          obtain ⟨j, hj⟩ : ∃ j : Nat, m.es.getD k 0 = (j : Int) := ⟨(m.es.getD k 0).toNat, by omega⟩
          rw [hi] at HCI
          rw [hj] at c1 HCI hx hi HFK
          rw [Int.toNat_natCast] at HFK
          have hjl : j < b.es.length := by omega
          obtain ⟨g3, o3, rfl, hg3, hc3⟩ := Eds.cells (HU.out.es.below hbel) hjl
          obtain ⟨e1, e2, e3⟩ := hc3 j hjl
          have k0 : (0 : Int) ≤ (k : Int) := by omega
          have k1 : (k : Int) < (m.es.length : Int) := by omega
          have k1' : (k : Int) < (a.es.length : Int) := by omega
          have k2 : ((k : Int)).toNat = k := by omega
          have j0 : (0 : Int) ≤ (j : Int) := by omega
          have j1 : (j : Int) < (b.es.length : Int) := by omega
          have j2 : ((j : Int)).toNat = j := by omega
          have HLA := Lib.hid hla
          have HI := Lib.hid hi
          clear hc1 hc2 hc3 hla hx hj hi hva
          generalize a.es.getD k default = xa at *
          generalize b.es.getD j default = xb at *
          obtain ⟨ty, fr, tt⟩ := xa
          obtain ⟨ty2, fr2, tt2⟩ := xb
          dsimp only at *
          by_cases he : ty = ty2
          case neg =>
            have hf : f k = 13 := by rw [HFK.out, if_neg (by rw [HI.out]; simp), if_pos he]
            have HRR := Lib.hid (show R = 13 by rw [HRK.out, HHIT.out k HLA.out (by omega), hf])
            have t : (ty2 != ty) = true := bne_iff_ne.2 fun h => he h.symm
            clear hf he hbel
            go_wp2_with fail
            refine (HCI.out _).mono ?_
            rintro e w' ⟨rfl, rfl⟩
            go_wp2_with fail
            go_quiet (fail)
            go_wp2_with fail
            go_ret
            exact ⟨ret_int (by rw [HRR.out]; rfl), below_draws HV.out.2.2.2.1 _⟩
          subst he
          have t : (ty != ty) = false := bne_self_eq_false _
          go_wp2_with fail
          refine (HCI.out _).mono ?_
          rintro e w' ⟨rfl, rfl⟩
          go_wp2_with fail
          go_quiet (fail)
          go_wp2_with fail
          clear p1 p2 p3 p4 p5 p6
          generalize hwx : wr.drewN _ = wx
          have hbx : Below wr.heap.size wr wx := by rw [← hwx]; exact below_draws (Below.refl _ _) _
          have HBX : Hid (Below w.heap.size w wx.drew) := Lib.hid (hbel.trans ((hbx.drew).mono (hbel.size)))
          have hVX := HV.out.up hbx.drew
          have HVX := Lib.hid hVX
          have hp := hVX.cells
          rw [HB0.out] at hp
          obtain ⟨p1, p2, p3, p4, p5, p6⟩ := hp
          have cx : ∀ {g o : Nat} {v : Value}, wr.cell? ⟨g, o, none⟩ = some v → wx.drew.cell? ⟨g, o, none⟩ = some v := fun {g o v} h => (hbx.drew.cell (p := ⟨g, o, none⟩) (World.block_lt_of_cell? wr _ h)).trans h
          have HS : Hid ((fun u : World => u.cell? ⟨w.heap.size + 1, 1, none⟩ = some (.slice (some ⟨g3, o3, none⟩) b.es.length de) ∧ u.cell? ⟨g3, o3 + j * 3, none⟩ = some (.int .i64 ty) ∧ u.cell? ⟨g3, o3 + j * 3 + 1, none⟩ = some (.int .i64 fr2) ∧ u.cell? ⟨g3, o3 + j * 3 + 2, none⟩ = some (.int .i64 tt2) ∧
            u.cell? ⟨w.heap.size, 1, none⟩ = some (.slice (some ⟨g2, o2, none⟩) a.es.length ce) ∧ u.cell? ⟨g2, o2 + k * 3, none⟩ = some (.int .i64 ty) ∧ u.cell? ⟨g2, o2 + k * 3 + 1, none⟩ = some (.int .i64 fr) ∧ u.cell? ⟨g2, o2 + k * 3 + 2, none⟩ = some (.int .i64 tt) ∧
            u.cell? ⟨w.heap.size + 1 + 1, 0, none⟩ = some (.slice Mn m.ns.length mn)) wx.drew) := Lib.hid ⟨p4, cx e1, cx e2, cx e3, p2, cx d1, cx d2, cx d3, p5⟩
          have HMX := Lib.hid (HME.out wx.drew HBX.out)
          have HSK : Hid (∀ w3, Below wx.drew.heap.size wx.drew w3 → (fun u : World => u.cell? ⟨w.heap.size + 1, 1, none⟩ = some (.slice (some ⟨g3, o3, none⟩) b.es.length de) ∧ u.cell? ⟨g3, o3 + j * 3, none⟩ = some (.int .i64 ty) ∧ u.cell? ⟨g3, o3 + j * 3 + 1, none⟩ = some (.int .i64 fr2) ∧ u.cell? ⟨g3, o3 + j * 3 + 2, none⟩ = some (.int .i64 tt2) ∧
            u.cell? ⟨w.heap.size, 1, none⟩ = some (.slice (some ⟨g2, o2, none⟩) a.es.length ce) ∧ u.cell? ⟨g2, o2 + k * 3, none⟩ = some (.int .i64 ty) ∧ u.cell? ⟨g2, o2 + k * 3 + 1, none⟩ = some (.int .i64 fr) ∧ u.cell? ⟨g2, o2 + k * 3 + 2, none⟩ = some (.int .i64 tt) ∧
            u.cell? ⟨w.heap.size + 1 + 1, 0, none⟩ = some (.slice Mn m.ns.length mn)) w3) := Lib.hid fun w3 hb => by
            have up : ∀ {g o : Nat} {v : Value}, wx.drew.cell? ⟨g, o, none⟩ = some v → w3.cell? ⟨g, o, none⟩ = some v := fun {g o v} h => (hb.cell (p := ⟨g, o, none⟩) (World.block_lt_of_cell? _ _ h)).trans h
            exact ⟨up p4, up (cx e1), up (cx e2), up (cx e3), up p2, up (cx d1), up (cx d2), up (cx d3), up p5⟩
          have HM2 : Hid (m.es.length - ((k : Int) + 1).toNat < m.es.length - ((k : Int)).toNat) := Lib.hid (by omega)
          clear hwx hbx hVX p1 p2 p3 p4 p5 p6 c1 d1 d2 d3 e1 e2 e3 hbel HME t cx
          generalize m.ns.getD fr.toNat 0 = y1 at *
          generalize m.ns.getD tt.toNat 0 = y2 at *
          refine wp_region_noPanic ?_
          refine wp_region_held_drew (S := (fun u : World => u.cell? ⟨w.heap.size + 1, 1, none⟩ = some (.slice (some ⟨g3, o3, none⟩) b.es.length de) ∧ u.cell? ⟨g3, o3 + j * 3, none⟩ = some (.int .i64 ty) ∧ u.cell? ⟨g3, o3 + j * 3 + 1, none⟩ = some (.int .i64 fr2) ∧ u.cell? ⟨g3, o3 + j * 3 + 2, none⟩ = some (.int .i64 tt2) ∧ u.cell? ⟨w.heap.size, 1, none⟩ = some (.slice (some ⟨g2, o2, none⟩) a.es.length ce) ∧ u.cell? ⟨g2, o2 + k * 3, none⟩ = some (.int .i64 ty) ∧ u.cell? ⟨g2, o2 + k * 3 + 1, none⟩ = some (.int .i64 fr) ∧ u.cell? ⟨g2, o2 + k * 3 + 2, none⟩ = some (.int .i64 tt) ∧ u.cell? ⟨w.heap.size + 1 + 1, 0, none⟩ = some (.slice Mn m.ns.length mn))) (by kernel_rfl) (HS.out) (fun hHeld => ?_)
          refine wpAnyH_take (i := 0) (v := ?_) (oper_at (r := _) rfl) (by kernel_rfl) (by kernel_rfl) (by kernel_rfl) (fun _ _ _ h => h) (Or.inl ⟨by rfl, ?_⟩) (by assumption) ?_
          rotate_left
          · intro w hSw; try dsimp only at hSw
            go_simp
            try with_reducible rfl
          try simp only [Act.put, List.setIfInBounds_toArray, List.set_cons_zero, List.set_cons_succ]
          refine wpAnyH_take (i := 1) (v := ?_) (oper_at (r := _) rfl) (by kernel_rfl) (by kernel_rfl) (by kernel_rfl) (fun _ _ _ h => h) (Or.inl ⟨by rfl, ?_⟩) (by assumption) ?_
          rotate_left
          · intro w hSw; try dsimp only at hSw
            go_simp
            try with_reducible rfl
          try simp only [Act.put, List.setIfInBounds_toArray, List.set_cons_zero, List.set_cons_succ]
          refine wpAnyH_take (i := 2) (v := ?_) (oper_at (r := _) rfl) (by kernel_rfl) (by kernel_rfl) (by kernel_rfl) (fun _ _ _ h => h) (Or.inl ⟨by rfl, ?_⟩) (by assumption) ?_
          rotate_left
          · intro w hSw; try dsimp only at hSw
            go_simp
            try with_reducible rfl
          try simp only [Act.put, List.setIfInBounds_toArray, List.set_cons_zero, List.set_cons_succ]
          refine wpAnyH_take (i := 3) (v := ?_) (oper_at (r := _) rfl) (by kernel_rfl) (by kernel_rfl) (by kernel_rfl) (fun _ _ _ h => h) (Or.inl ⟨by rfl, ?_⟩) (by assumption) ?_
          rotate_left
          · intro w hSw; try dsimp only at hSw
            go_simp
            try with_reducible rfl
          try simp only [Act.put, List.setIfInBounds_toArray, List.set_cons_zero, List.set_cons_succ]
          refine wpAnyH_take (i := 4) (v := ?_) (oper_at (r := _) rfl) (by kernel_rfl) (by kernel_rfl) (by kernel_rfl) (fun _ _ _ h => h) (Or.inl ⟨by rfl, ?_⟩) (by assumption) ?_
          rotate_left
          · intro w hSw; try dsimp only at hSw
            go_simp
            try with_reducible rfl
          try simp only [Act.put, List.setIfInBounds_toArray, List.set_cons_zero, List.set_cons_succ]
          refine wpAnyH_take (i := 5) (v := ?_) (oper_at (r := _) rfl) (by kernel_rfl) (by kernel_rfl) (by kernel_rfl) (fun _ _ _ h => h) (Or.inl ⟨by rfl, ?_⟩) (by assumption) ?_
          rotate_left
          · intro w hSw; try dsimp only at hSw
            go_simp
            try with_reducible rfl
          try simp only [Act.put, List.setIfInBounds_toArray, List.set_cons_zero, List.set_cons_succ]
          refine wpAnyH_take (i := 6) (v := ?_) (oper_at (r := _) rfl) (by kernel_rfl) (by kernel_rfl) (by kernel_rfl) (fun _ _ _ h => h) (Or.inl ⟨by rfl, ?_⟩) (by assumption) ?_
          rotate_left
          · intro w hSw; try dsimp only at hSw
            go_simp
            try with_reducible rfl
          try simp only [Act.put, List.setIfInBounds_toArray, List.set_cons_zero, List.set_cons_succ]
          refine wpAnyH_take (i := 7) (v := ?_) (oper_at (r := _) rfl) (by kernel_rfl) (by kernel_rfl) (by kernel_rfl) (fun _ _ _ h => h) (Or.inl ⟨by rfl, ?_⟩) (by assumption) ?_
          rotate_left
          · intro w hSw; try dsimp only at hSw
            go_simp
            try with_reducible rfl
          try simp only [Act.put, List.setIfInBounds_toArray, List.set_cons_zero, List.set_cons_succ]
          refine wpAnyH_take (i := 8) (v := ?_) (oper_at (r := _) rfl) (by kernel_rfl) (by kernel_rfl) (by kernel_rfl) (fun _ _ _ h => h) (Or.inl ⟨by rfl, ?_⟩) (by assumption) ?_
          rotate_left
          · intro w hSw; try dsimp only at hSw
            go_simp
            try with_reducible rfl
          try simp only [Act.put, List.setIfInBounds_toArray, List.set_cons_zero, List.set_cons_succ]
          refine wpAnyH_take (i := 9) (v := ?_) (oper_at (r := _) rfl) (by kernel_rfl) (by kernel_rfl) (by kernel_rfl) (fun _ _ _ h => h) (Or.inl ⟨by rfl, ?_⟩) (by assumption) ?_
          rotate_left
          · intro w hSw; try dsimp only at hSw
            go_simp
            try with_reducible rfl
          try simp only [Act.put, List.setIfInBounds_toArray, List.set_cons_zero, List.set_cons_succ]
          refine wpAnyH_take (i := 10) (v := ?_) (oper_at (r := _) rfl) (by kernel_rfl) (by kernel_rfl) (by kernel_rfl) (fun _ _ _ h => h) (Or.inl ⟨by rfl, ?_⟩) (by assumption) ?_
          rotate_left
          · intro w hSw; try dsimp only at hSw
            go_simp
            try with_reducible rfl
          try simp only [Act.put, List.setIfInBounds_toArray, List.set_cons_zero, List.set_cons_succ]
          refine wpAnyH_take (i := 11) (v := ?_) (oper_at (r := _) rfl) (by kernel_rfl) (by kernel_rfl) (by kernel_rfl) (fun _ _ _ h => h) (Or.inl ⟨by rfl, ?_⟩) (by assumption) ?_
          rotate_left
          · intro w hSw; try dsimp only at hSw
            go_simp
            try with_reducible rfl
          try simp only [Act.put, List.setIfInBounds_toArray, List.set_cons_zero, List.set_cons_succ]
          refine wpAnyH_ready (rs := [12]) (by kernel_rfl) (by simp) ?_
          refine AllReadyH.cons (oper_at (r := _) rfl) (fun K hK => ?_) AllReadyH.nil
          go_simp
          refine HMX.out.mono ?_
          rintro e w3 ⟨rfl, hb3⟩
          have HS3 := Lib.hid (HSK.out w3 hb3)
          have HV3 := Lib.hid (HVX.out.up hb3)
          clear hb3
          go_wp2_with fail
          refine hK.out _ _ (HS3.out) (fun _ => ?_)
          clear hK K
          try simp only [Act.put, List.setIfInBounds_toArray, List.set_cons_zero, List.set_cons_succ]
          by_cases hy : fr2 = y1
          · subst hy
            by_cases hy2 : tt2 = y2
            · subst hy2
              have hf : f k = 0 := by rw [HFK.out, if_neg (by rw [HI.out]; simp), if_neg (fun h => h rfl), if_neg (by simp)]
              have HE := Lib.hid (show R = fstN f (k + 1) (a.es.length - (k + 1)) by rw [HRK.out, HPASS.out k HLA.out hf])
              clear hf
              refine wpAnyH_take (i := 13) (v := ?_) (oper_at (r := _) rfl) (by kernel_rfl) (by kernel_rfl) (by kernel_rfl) (fun _ _ _ h => h) (Or.inl ⟨by rfl, ?_⟩) (by assumption) ?_
              rotate_left
              · intro w hSw; try dsimp only at hSw
                go_simp
                try with_reducible rfl
              try simp only [Act.put, List.setIfInBounds_toArray, List.set_cons_zero, List.set_cons_succ]
              refine wpAnyH_take (i := 14) (v := ?_) (oper_at (r := _) rfl) (by kernel_rfl) (by kernel_rfl) (by kernel_rfl) (fun _ _ _ h => h) (Or.inl ⟨by rfl, ?_⟩) (by assumption) ?_
              rotate_left
              · intro w hSw; try dsimp only at hSw
                go_simp
                try with_reducible rfl
              try simp only [Act.put, List.setIfInBounds_toArray, List.set_cons_zero, List.set_cons_succ]
              refine wpAnyH_done (by kernel_rfl) ?_ _
              refine NoPanic.normal ?_
              go_wp2_with fail
              go_roundw
              case rel => exact ⟨k + 1, by omega, by go_num, HE.out, HV3.out⟩
              case measure => exact HM2.out
            · have hf : f k = 11 := by rw [HFK.out, if_neg (by rw [HI.out]; simp), if_neg (fun h => h rfl), if_pos (.inr fun h => hy2 h.symm)]
              have HRR := Lib.hid (show R = 11 by rw [HRK.out, HHIT.out k HLA.out (by omega), hf])
              have t : (tt2 == y2) = false := ne_beq hy2
              clear hf
              refine wpAnyH_take (i := 13) (v := ?_) (oper_at (r := _) rfl) (by kernel_rfl) (by kernel_rfl) (by kernel_rfl) (fun _ _ _ h => h) (Or.inl ⟨by rfl, ?_⟩) (by assumption) ?_
              rotate_left
              · intro w hSw; try dsimp only at hSw
                go_simp
                try with_reducible rfl
              try simp only [Act.put, List.setIfInBounds_toArray, List.set_cons_zero, List.set_cons_succ]
              refine wpAnyH_take (i := 14) (v := ?_) (oper_at (r := _) rfl) (by kernel_rfl) (by kernel_rfl) (by kernel_rfl) (fun _ _ _ h => h) (Or.inl ⟨by rfl, ?_⟩) (by assumption) ?_
              rotate_left
              · intro w hSw; try dsimp only at hSw
                go_simp
                try with_reducible rfl
              try simp only [Act.put, List.setIfInBounds_toArray, List.set_cons_zero, List.set_cons_succ]
              refine wpAnyH_done (by kernel_rfl) ?_ _
              refine NoPanic.normal ?_
              go_wp2_with fail
              go_ret
              exact ⟨ret_int (by rw [HRR.out]; rfl), HV3.out.2.2.2.1⟩
          · have hf : f k = 11 := by rw [HFK.out, if_neg (by rw [HI.out]; simp), if_neg (fun h => h rfl), if_pos (.inl fun h => hy h.symm)]
            have HRR := Lib.hid (show R = 11 by rw [HRK.out, HHIT.out k HLA.out (by omega), hf])
            have t : (fr2 == y1) = false := ne_beq hy
            clear hf
            refine wpAnyH_take (i := 13) (v := ?_) (oper_at (r := _) rfl) (by kernel_rfl) (by kernel_rfl) (by kernel_rfl) (fun _ _ _ h => h) (Or.inl ⟨by rfl, ?_⟩) (by assumption) ?_
            rotate_left
            · intro w hSw; try dsimp only at hSw
              go_simp
              try with_reducible rfl
            try simp only [Act.put, List.setIfInBounds_toArray, List.set_cons_zero, List.set_cons_succ]
            refine wpAnyH_take (i := 14) (v := ?_) (oper_at (r := _) rfl) (by kernel_rfl) (by kernel_rfl) (by kernel_rfl) (fun _ _ _ h => h) (Or.inl ⟨by rfl, ?_⟩) (by assumption) ?_
            rotate_left
            · intro w hSw; try dsimp only at hSw
              go_simp
              try with_reducible rfl
            try simp only [Act.put, List.setIfInBounds_toArray, List.set_cons_zero, List.set_cons_succ]
            refine wpAnyH_done (by kernel_rfl) ?_ _
            refine NoPanic.normal ?_
            go_wp2_with fail
            go_ret
            exact ⟨ret_int (by rw [HRR.out]; rfl), HV3.out.2.2.2.1⟩
        · obtain rfl : k = m.es.length := by omega
          have HRR := Lib.hid (show R = 0 by rw [HRK.out]; exact HEND.out _ (by rw [HL2.out]; exact Nat.le_refl _))
          clear hbel
          go_wp2_with fail
          go_ret
          exact ⟨ret_int (by rw [HRR.out]; rfl), HV.out.2.2.2.1⟩

end Go.Proofs.YtaeelanbkdkppaaDoor

/-
  Graphs: Incident, of the program and the reference.
-/
namespace Go.Proofs.YtaeelanbkdkppaaDoor
open Go.RowKit

/-- two rows lie in two blocks -/
def Ap (a b : Value) : Prop := ∀ q, a.ownBlock = some q → b.ownBlock ≠ some q
theorem Ap.symm {a b : Value} (h : Ap a b) : Ap b a := fun q h1 h2 => h q h2 h1
theorem Ap.kept {a b : Value} (h : Ap a b) : b.ownBlock = none ∨ b.ownBlock ≠ a.ownBlock := by
  cases e : b.ownBlock with
  | none => exact .inl rfl
  | some q => exact .inr fun e2 => h q e2.symm e
end Go.Proofs.YtaeelanbkdkppaaDoor

/-
  Rows that grow beside one another: append of many, and where the new row lies; slices.Sort of a row.
-/
namespace Go.Proofs.YtaeelanbkdkppaaDoor
open Go.RowKit

/-! slices.Sort -/
def srt (xs : List Int) : List Int := xs.mergeSort fun x y => decide (x ≤ y)
theorem srt_len (xs : List Int) : (srt xs).length = xs.length := List.length_mergeSort _
theorem sort_any (base : Nat) (v : Value) (xs : List Int) (w : World) (h : OwnI w base v xs) (hl : xs.length ≤ 1000000) :
    Calls Tryd.prog 75 #[v] w fun e w' => e = .returned (.tuple #[]) ∧ OwnI w' base v (srt xs) ∧ w.grownBy w' v.ownBlock := by
  have hc : cellsE EInt xs = xs.map (Value.int .i64) := cellsE_int xs
  have hc2 : cellsE EInt (srt xs) = (srt xs).map (Value.int .i64) := cellsE_int _
  have h0 := h
  rcases h0.2 with ⟨e, hn⟩ | ⟨g, cap, cur, e, hbg, hg, h1, h2, h3, h4⟩
  · have hx : xs = [] := List.eq_nil_of_length_eq_zero hn
    subst hx e
    refine (Tryd.slices_Sort_int_none none 0 w).mono ?_
    rintro e w' ⟨rfl, rfl⟩
    exact ⟨rfl, by rw [show srt [] = [] from List.mergeSort_nil]; exact h, grown_refl _ _⟩
  · subst e
    have hH := holds_of_blockI (ss := xs) hg (by rw [← hc, ← h4, show EInt.size = 1 from rfl, Nat.mul_one])
    refine (Tryd.slices_Sort_int g 0 cap xs w hH (Array.getElem?_eq_some_iff.1 hg).1 (by omega)).mono ?_
    rintro e w' ⟨rfl, n, os, rfl⟩
    refine ⟨rfl, ?_, grownBy_sortedI _⟩
    unfold OwnI OwnE
    rw [hc2, srt_len]
    exact ownsRow_sortedI (srt_len xs) hbg hg h1 h2 h3

end Go.Proofs.YtaeelanbkdkppaaDoor

