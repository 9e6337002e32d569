/-
  Graphs: GraphRemove.
-/
import Derived.Test.YtiafmhdicgmfaaaGLaw
namespace Go.Proofs.Ytiafmhdicgmfaaa
open Go.RowKit

/-- a box that holds a morphism -/
structure MB (h : Nat) (An : Option Addr) (cn : Nat) (Ae : Option Addr) (ce : Nat) (m : Mo) (W : World) : Prop where
  box : BoxIs h (.slice An m.ns.length cn) (.slice Ae m.es.length ce) 40 W
  mo : MoAt W An cn Ae ce m
theorem MB.up {h : Nat} {An : Option Addr} {cn : Nat} {Ae : Option Addr} {ce : Nat} {m : Mo} {W W' : World} (k : MB h An cn Ae ce m W) (hb : Below W.heap.size W W') : MB h An cn Ae ce m W' := ⟨k.box.up hb, k.mo.up hb⟩
theorem MB.cells {h : Nat} {An : Option Addr} {cn : Nat} {Ae : Option Addr} {ce : Nat} {m : Mo} {W : World} (k : MB h An cn Ae ce m W) : C2 h (.slice An m.ns.length cn) (.slice Ae m.es.length ce) W := k.box.cells
theorem MB.lt {h : Nat} {An : Option Addr} {cn : Nat} {Ae : Option Addr} {ce : Nat} {m : Mo} {W : World} (k : MB h An cn Ae ce m W) : h < W.heap.size := heap_lt k.box
/-- a graph and a morphism, each laid into a new box -/
theorem boxes_gm {w : World} {An : Option Addr} {cn : Nat} {Ae : Option Addr} {ce : Nat} {g : Gr} {Bn : Option Addr} {dn : Nat} {Be : Option Addr} {de : Nat} {m : Mo} (h1 : GrAt w An cn Ae ce g) (h2 : MoAt w Bn dn Be de m) {W : World}
    (hW : W = (w.alloc (.cells #[.slice An g.ns.length cn, .slice Ae g.es.length ce] 25 (0, 0))).alloc (.cells #[.slice Bn m.ns.length dn, .slice Be m.es.length de] 40 (0, 0))) :
    GB w.heap.size An cn Ae ce g W ∧ MB (w.heap.size + 1) Bn dn Be de m W ∧ Below w.heap.size w W := by
  subst hW
  exact ⟨⟨heap_two _ _ _, h1.up (below_aa _ _ _)⟩, ⟨heap_two' _ _ _, h2.up (below_aa _ _ _)⟩, below_aa _ _ _⟩

theorem rem_node {g : Gr} {vs xs : List Int} (h : remE g vs xs = 0) {i : Nat} (hi : i < g.ns.length) (hn : ¬ (i : Int) ∈ vs) :
    ∃ q : Nat, plc vs i = (q : Int) ∧ q < (remG g vs xs).ns.length ∧ (remG g vs xs).ns.getD q 0 = g.ns.getD i 0 := by
  obtain ⟨_, h2, _, _⟩ := rem_zero h
  obtain ⟨v0, va⟩ := asc_zero h2
  have hl := (left_at va (fun x hx => (v0 x hx).1) (fun i => g.ns.getD i 0) g.ns.length).2 i hi hn
  have hle := cnt_le va (fun x hx => (v0 x hx).1) i
  refine ⟨i - cntL vs i, by rw [plc_out hn]; omega, ?_⟩
  unfold remG
  rw [if_pos h]
  have hl' : (remNs g vs g.ns.length)[i - cntL vs i]? = some (g.ns.getD i 0) := hl
  obtain ⟨hq, _⟩ := List.getElem?_eq_some_iff.1 hl'
  exact ⟨hq, by show (remNs g vs g.ns.length).getD _ 0 = _; rw [List.getD_eq_getElem?_getD, hl']; rfl⟩
theorem rem_edge {g : Gr} {vs xs : List Int} (h : remE g vs xs = 0) {i : Nat} (hi : i < g.es.length) (hn : ¬ (i : Int) ∈ xs) :
    ∃ q : Nat, plc xs i = (q : Int) ∧ q < (remG g vs xs).es.length ∧ (remG g vs xs).es.getD q default = mvd g vs i := by
  obtain ⟨_, _, h3, _⟩ := rem_zero h
  obtain ⟨x0, xa⟩ := asc_zero h3
  have hl := (left_at xa (fun x hx => (x0 x hx).1) (fun i => mvd g vs i) g.es.length).2 i hi hn
  have hle := cnt_le xa (fun x hx => (x0 x hx).1) i
  refine ⟨i - cntL xs i, by rw [plc_out hn]; omega, ?_⟩
  unfold remG
  rw [if_pos h]
  have hl' : (remEs g vs xs g.es.length)[i - cntL xs i]? = some (mvd g vs i) := hl
  obtain ⟨hq, _⟩ := List.getElem?_eq_some_iff.1 hl'
  exact ⟨hq, by show (remEs g vs xs g.es.length).getD _ default = _; rw [List.getD_eq_getElem?_getD, hl']; rfl⟩
theorem rem_ms {g : Gr} {vs xs : List Int} (h : remE g vs xs = 0) : (remM g vs xs).ns.length = g.ns.length ∧ (remM g vs xs).es.length = g.es.length ∧ (∀ i, i < g.ns.length → (remM g vs xs).ns.getD i 0 = plc vs i) ∧ ∀ i, i < g.es.length → (remM g vs xs).es.getD i 0 = plc xs i := by
  unfold remM
  rw [if_pos h]
  exact ⟨coll_len _ _, coll_len _ _, fun i hi => coll_getD _ hi _, fun i hi => coll_getD _ hi _⟩

/-- where GraphRemove stands behind its calls -/
structure RS (w : World) (g : Gr) (An : Option Addr) (cn : Nat) (Ae : Option Addr) (ce : Nat) (h7 : Nat) (Dn : Option Addr) (en : Nat) (De : Option Addr) (ee : Nat) (G : Gr) (Mn : Option Addr) (mn : Nat) (Me : Option Addr) (me : Nat) (M : Mo) (W : World) : Prop where
  b0 : GB w.heap.size An cn Ae ce g W
  b7 : GB h7 Dn en De ee G W
  b8 : MB (h7 + 1) Mn mn Me me M W
  be : Below w.heap.size w W
theorem RS.up {w : World} {g : Gr} {An : Option Addr} {cn : Nat} {Ae : Option Addr} {ce : Nat} {h7 : Nat} {Dn : Option Addr} {en : Nat} {De : Option Addr} {ee : Nat} {G : Gr} {Mn : Option Addr} {mn : Nat} {Me : Option Addr} {me : Nat} {M : Mo} {W W' : World}
    (k : RS w g An cn Ae ce h7 Dn en De ee G Mn mn Me me M W) (hb : Below W.heap.size W W') : RS w g An cn Ae ce h7 Dn en De ee G Mn mn Me me M W' := ⟨k.b0.up hb, k.b7.up hb, k.b8.up hb, k.be.trans (hb.mono k.be.size)⟩

set_option maxRecDepth 100000 in
set_option maxHeartbeats 8000000 in
theorem lawRemove (g : Gr) (An : Option Addr) (cn : Nat) (Ae : Option Addr) (ce : Nat) (vs : List Int) (Av : Option Addr) (cv : Nat) (xs : List Int) (Ax : Option Addr) (cx : Nat) (w : World) (hT : GrAt w An cn Ae ce g) (hV : Ints w w.heap.size Av vs) (lv : vs.length ≤ maxLen) (hX : Ints w w.heap.size Ax xs) (lx : xs.length ≤ maxLen) :
    Calls Try.prog 5 #[gval An g.ns.length cn Ae g.es.length ce, .slice Av vs.length cv, .slice Ax xs.length cx] w fun e w' => e = .returned (.bool true) ∧ Below w.heap.size w w' := by
  have HG0 := Lib.hid (GB.start hT)
  have HB0 := Lib.hid (below_a w (.cells #[.slice An g.ns.length cn, .slice Ae g.es.length ce] 25 (0, 0)))
  have HV := Lib.hid hV
  have HX := Lib.hid hX
  unfold maxLen at lv lx
  clear hT hV hX
  go_enter Try.func5, Try.ntmps5
  go_wp2_with fail
  refine (awake_any _).mono ?_
  rintro e w1 ⟨rfl, hb1⟩
  have HG1 := Lib.hid (HG0.out.up hb1)
  have HB1 := Lib.hid (HB0.out.trans (hb1.mono HB0.out.size))
  clear hb1 HG0 HB0
  obtain ⟨c0, c1⟩ := HG1.out.cells
  have z0 := HG1.out.lt
  go_wp2_with fail
  refine (few_any g _ _ _ _ _ HG1.out.gr).mono ?_
  rintro e w2 ⟨rfl, hb2⟩
  have HG2 := Lib.hid (HG1.out.up hb2)
  have HB2 := Lib.hid (HB1.out.trans (hb2.mono HB1.out.size))
  clear hb2 HG1 HB1 c0 c1 z0
  have HAG : Hid (∀ W, Below w.heap.size w W → Calls Try.prog 10 #[] W fun e w' => e = .returned (.bool true) ∧ Below w.heap.size w w') := Lib.hid fun W h => (awake_any W).mono fun e w' ⟨h1, h2⟩ => ⟨h1, h.trans (h2.mono h.size)⟩
  by_cases hq : fewB g = true ∧ vs.length ≤ 100 ∧ xs.length ≤ 100
  case neg =>
    have hc : fewB g = false ∨ (fewB g = true ∧ 100 < vs.length) ∨ (fewB g = true ∧ vs.length ≤ 100 ∧ 100 < xs.length) := by
      cases hf : fewB g with
      | false => exact .inl rfl
      | true =>
        by_cases h1 : vs.length ≤ 100
        · by_cases h2 : xs.length ≤ 100
          · exact absurd ⟨hf, h1, h2⟩ hq
          · exact .inr (.inr ⟨rfl, h1, by omega⟩)
        · exact .inr (.inl ⟨rfl, by omega⟩)
    clear hq
    have hd : fewB g = false ∨ (fewB g = true ∧ decide ((100 : Int) < (vs.length : Int)) = true) ∨ (fewB g = true ∧ decide ((100 : Int) < (vs.length : Int)) = false ∧ decide ((100 : Int) < (xs.length : Int)) = true) := by
      rcases hc with hf | ⟨hf, h1⟩ | ⟨hf, h1, h2⟩
      · exact .inl hf
      · exact .inr (.inl ⟨hf, decide_eq_true (by omega)⟩)
      · exact .inr (.inr ⟨hf, decide_eq_false (by omega), decide_eq_true (by omega)⟩)
    clear hc
    rcases hd with hf | ⟨hf, h1⟩ | ⟨hf, h1, h2⟩
    all_goals
      rw [hf]
      go_wp2_with fail
      refine (HAG.out _ HB2.out).mono ?_
      rintro e w3 ⟨rfl, hb3⟩
      have HBF := Lib.hid hb3
      clear hb3
      go_wp2_with fail
      go_ret
      exact ⟨rfl, HBF.out⟩
  obtain ⟨hf, l1, l2⟩ := hq
  have HF := Lib.hid hf
  rw [hf]
  have tv : decide ((100 : Int) < (vs.length : Int)) = false := decide_eq_false (by omega)
  have tx : decide ((100 : Int) < (xs.length : Int)) = false := decide_eq_false (by omega)
  obtain ⟨c0, c1⟩ := HG2.out.cells
  have z0 := HG2.out.lt
  clear hf
  go_wp2_with fail
  refine (copyG_any g _ _ _ _ _ HF.out HG2.out.gr).mono ?_
  rintro e w3 ⟨⟨Cn, fn, Ce, fe, rfl, hC⟩, hb3⟩
  have HG3 := Lib.hid (HG2.out.up hb3)
  have HB3 := Lib.hid (HB2.out.trans (hb3.mono HB2.out.size))
  have HC := Lib.hid hC
  clear hb3 hC HG2 HB2 c0 c1 z0
  go_wp2_with fail
  refine (cloneI_any vs _ _ _ _ (by omega) (HV.out.below HB3.out)).mono ?_
  rintro e w4 ⟨v4, rfl, hown4, hb4⟩
  obtain ⟨a4, k4, rfl, hr4, _⟩ := OwnE.reads_cap hown4
  have HG4 := Lib.hid (HG3.out.up hb4)
  have HB4 := Lib.hid (HB3.out.trans (hb4.mono HB3.out.size))
  have HC4 := Lib.hid (HC.out.up hb4)
  have HR4 := Lib.hid hr4
  clear hb4 hown4 hr4 HG3 HB3 HC
  go_wp2_with fail
  refine (cloneI_any xs _ _ _ _ (by omega) (HX.out.below HB4.out)).mono ?_
  rintro e w5 ⟨v5, rfl, hown5, hb5⟩
  obtain ⟨a5, k5, rfl, hr5, _⟩ := OwnE.reads_cap hown5
  have HG5 := Lib.hid (HG4.out.up hb5)
  have HB5 := Lib.hid (HB4.out.trans (hb5.mono HB4.out.size))
  have HC5 := Lib.hid (HC4.out.up hb5)
  have HR5 := Lib.hid (HR4.out.up hb5)
  have HQ5 := Lib.hid hr5
  clear hb5 hown5 hr5 HG4 HB4 HC4 HR4
  go_wp2_with fail
  refine (remP g vs xs _ _ _ _ _ _ _ _ _ (by omega) (by omega) HC5.out HR5.out HQ5.out).mono ?_
  rintro e w6 ⟨⟨v, u, rfl, ⟨Dn, en, De, ee, rfl, hD⟩, ⟨Mn, mn, Me, me, rfl, hM⟩⟩, hb6⟩
  have HG6 := Lib.hid (HG5.out.up hb6)
  have HB6 := Lib.hid (HB5.out.trans (hb6.mono HB5.out.size))
  have HD := Lib.hid hD
  have HM := Lib.hid hM
  clear hb6 hD hM HG5 HB5 HC5 HR5 HQ5
  have HN1 := Lib.hid (fun h i => rem_node (g := g) (vs := vs) (xs := xs) (i := i) h)
  have HE1 := Lib.hid (fun h i => rem_edge (g := g) (vs := vs) (xs := xs) (i := i) h)
  have HM1 := Lib.hid (fun h => rem_ms (g := g) (vs := vs) (xs := xs) h)
  have HZ1 := Lib.hid (fun h => rem_zero (g := g) (vs := vs) (xs := xs) h)
  have HRR := Lib.hid (fun An cn Ae ce Av Ax cv cx W l1 l2 => remR g vs xs An cn Ae ce Av Ax cv cx W l1 l2)
  generalize remG g vs xs = G at HN1 HE1 HM1 HRR HD ⊢
  generalize remM g vs xs = M at HN1 HE1 HM1 HRR HM ⊢
  generalize remE g vs xs = R at HN1 HE1 HM1 HZ1 HRR ⊢
  obtain ⟨c0, c1⟩ := HG6.out.cells
  have z0 := HG6.out.lt
  go_wp2_with fail
  obtain ⟨w7, hw7⟩ : ∃ w7, w7 = (w6.alloc (.cells #[.slice Dn G.ns.length en, .slice De G.es.length ee] 25 (0, 0))).alloc (.cells #[.slice Mn M.ns.length mn, .slice Me M.es.length me] 40 (0, 0)) := ⟨_, rfl⟩
  obtain ⟨q1, q2, q3⟩ := boxes_gm HD.out HM.out hw7
  have HS7 := Lib.hid (show RS w g An cn Ae ce w6.heap.size Dn en De ee G Mn mn Me me M w7 from ⟨HG6.out.up q3, q1, q2, HB6.out.trans (q3.mono HB6.out.size)⟩)
  rw [← hw7]
  clear q1 q2 q3 hw7 HG6 HB6 HD HM c0 c1 z0
  refine (HRR.out _ _ _ _ _ _ _ _ _ (by omega) (by omega) HS7.out.b0.gr ((HV.out.below HS7.out.be).mono HS7.out.be.size) ((HX.out.below HS7.out.be).mono HS7.out.be.size)).mono ?_
  rintro e w8 ⟨⟨v, u, rfl, ⟨En, hn, Ee, he, rfl, hE⟩, ⟨Nn, nn, Ne, ne, rfl, hN⟩⟩, hb8⟩
  have HS8 := Lib.hid (HS7.out.up hb8)
  have HE := Lib.hid hE
  have HN := Lib.hid hN
  clear hb8 hE hN HS7 HRR
  obtain ⟨c2, c3⟩ := HS8.out.b7.cells
  have z1 := HS8.out.b7.lt
  have tR : ((R : Int) != (R : Int)) = false := by simp
  have tR2 : ((R : Int) == (R : Int)) = true := by simp
  go_wp2_with fail
  obtain ⟨w9, hw9⟩ : ∃ w9, w9 = (w8.alloc (.cells #[.slice En G.ns.length hn, .slice Ee G.es.length he] 25 (0, 0))).alloc (.cells #[.slice Nn M.ns.length nn, .slice Ne M.es.length ne] 40 (0, 0)) := ⟨_, rfl⟩
  obtain ⟨q1, q2, q3⟩ := boxes_gm HE.out HN.out hw9
  have HS9 := Lib.hid (HS8.out.up q3)
  have HE9 := Lib.hid q1
  have HN9 := Lib.hid q2
  rw [← hw9]
  clear q1 q2 q3 hw9 HS8 HE HN c2 c3 z1
  refine (sameR_any G G _ _ _ _ _ _ _ _ _ HS9.out.b7.gr HE9.out.gr).mono ?_
  rintro e w10 ⟨rfl, hb10⟩
  have HS10 := Lib.hid (HS9.out.up hb10)
  have HE10 := Lib.hid (HE9.out.up hb10)
  have HN10 := Lib.hid (HN9.out.up hb10)
  clear hb10 HS9 HE9 HN9
  rw [decide_eq_true (p := G = G) rfl]
  obtain ⟨c0, c1⟩ := HS10.out.b8.cells
  obtain ⟨c2, c3⟩ := HN10.out.cells
  have z0 := HS10.out.b8.lt
  have z1 := HN10.out.lt
  go_wp2_with fail
  refine (sameM_any M M _ _ _ _ _ _ _ _ _ HS10.out.b8.mo HN10.out.mo).mono ?_
  rintro e w11 ⟨rfl, hb11⟩
  have HS11 := Lib.hid (HS10.out.up hb11)
  have HE11 := Lib.hid (HE10.out.up hb11)
  have HN11 := Lib.hid (HN10.out.up hb11)
  clear hb11 HS10 HE10 HN10 c0 c1 c2 c3 z0 z1
  rw [decide_eq_true (p := M = M) rfl]
  by_cases hR : R = 0
  case neg =>
    have t0 : ((R : Int) != 0) = true := by simp; omega
    obtain ⟨c0, c1⟩ := HS11.out.b7.cells
    obtain ⟨c2, c3⟩ := HE11.out.cells
    have z0 := HS11.out.b7.lt
    have z1 := HE11.out.lt
    clear hR
    go_wp2_with fail
    refine (sameR_any G G _ _ _ _ _ _ _ _ _ HS11.out.b7.gr HE11.out.gr).mono ?_
    rintro e w12 ⟨rfl, hb12⟩
    have HS12 := Lib.hid (HS11.out.up hb12)
    have HN12 := Lib.hid (HN11.out.up hb12)
    clear hb12 HS11 HE11 HN11 c0 c1 c2 c3 z0 z1
    rw [decide_eq_true (p := G = G) rfl]
    obtain ⟨c0, c1⟩ := HS12.out.b8.cells
    obtain ⟨c2, c3⟩ := HN12.out.cells
    have z0 := HS12.out.b8.lt
    have z1 := HN12.out.lt
    go_wp2_with fail
    refine (sameM_any M M _ _ _ _ _ _ _ _ _ HS12.out.b8.mo HN12.out.mo).mono ?_
    rintro e w13 ⟨rfl, hb13⟩
    have HBF := Lib.hid (HS12.out.up hb13).be
    clear hb13
    rw [decide_eq_true (p := M = M) rfl]
    go_wp2_with fail
    go_ret
    exact ⟨rfl, HBF.out⟩
  subst hR
  have HN1' := Lib.hid (fun i => HN1.out rfl i)
  have HE1' := Lib.hid (fun i => HE1.out rfl i)
  obtain ⟨lm1, lm2, hm1, hm2⟩ := HM1.out rfl
  have HMN := Lib.hid hm1
  have HME := Lib.hid hm2
  obtain ⟨hv0, _, _, _⟩ := HZ1.out rfl
  have HVA := Lib.hid hv0
  obtain ⟨b40, b80, _⟩ := valid_zero hv0
  clear HN1 HE1 HM1 HZ1 hm1 hm2 hv0 tR tR2 HV HX HF HAG
  obtain ⟨c0, c1⟩ := HS11.out.b8.cells
  have z0 := HS11.out.b8.lt
  clear HE11 HN11
  go_wp2_with fail
  clear c0 c1 z0
  go_loopw [90] (fun vi wr => ∃ i q : Nat, i ≤ g.ns.length ∧ vi = .int .i64 i ∧ wr = w11.drewN q) (fun vi _ => g.ns.length - (intOf vi).toNat)
  case atStart => exact ⟨0, 0, Nat.zero_le _, rfl, rfl⟩
  case round =>
    obtain ⟨i, q, hi, rfl, rfl⟩ := hrel
    by_cases hlt : i < g.ns.length
    · obtain ⟨bm, offm, rfl, hbm, cm⟩ := Ints.cells HS11.out.b8.mo.ns (k := i) (by omega)
      have q0 := cm i (by omega)
      rw [HMN.out i hlt] at q0
      have hi0 : (0 : Int) ≤ (i : Int) := by omega
      have hi1 : (i : Int) < (g.ns.length : Int) := by omega
      have hi2 : ((i : Int)).toNat = i := by omega
      clear cm
      by_cases hin : (i : Int) ∈ vs
      · rw [plc_in hin] at q0
        clear hin
        go_wp2_with fail
        go_quiet (fail)
        go_wp2_with fail
        go_roundw
        case rel => exact ⟨i + 1, _, by omega, by go_num, rfl⟩
        case measure => simp [intOf]; omega
      · obtain ⟨k, e1, e2, e3⟩ := HN1'.out i hlt hin
        rw [e1] at q0
        obtain ⟨b7, off7, rfl, hb7, c7⟩ := Ints.cells HS11.out.b7.gr.ns e2
        have q1 := c7 k e2
        rw [e3] at q1
        obtain ⟨b0, off0, rfl, hb0, cg⟩ := Ints.cells HS11.out.b0.gr.ns hlt
        have q2 := cg i hlt
        clear c7 cg hin e1 e3
        generalize g.ns.getD i 0 = x at q1 q2
        obtain ⟨d0, d1⟩ := HS11.out.b7.cells
        obtain ⟨d2, d3⟩ := HS11.out.b0.cells
        have y0 := HS11.out.b7.lt
        have y1 := HS11.out.b0.lt
        have hk0 : (0 : Int) ≤ (k : Int) := by omega
        have hk1 : (k : Int) < (G.ns.length : Int) := by omega
        have hk2 : ((k : Int)).toNat = k := by omega
        go_wp2_with fail
        go_quiet (fail)
        go_wp2_with fail
        go_roundw
        case rel => exact ⟨i + 1, _, by omega, by go_num, rfl⟩
        case measure => simp [intOf]; omega
    · have e : i = g.ns.length := by omega
      subst e
      obtain ⟨c0, c1⟩ := HS11.out.b8.cells
      have z0 := HS11.out.b8.lt
      go_wp2_with fail
      have HQ0 := Lib.hid (below_draws (Below.refl w11.heap.size w11) q)
      clear c0 c1 z0
      go_loopw [121] (fun vi wr => ∃ j : Nat, j ≤ g.es.length ∧ vi = .int .i64 j ∧ Below w11.heap.size w11 wr) (fun vi _ => g.es.length - (intOf vi).toNat)
      case atStart => exact ⟨0, Nat.zero_le _, rfl, HQ0.out⟩
      case round =>
        clear HQ0
        obtain ⟨j, hj, rfl, hbel⟩ := hrel
        have HSR := Lib.hid (HS11.out.up hbel)
        have HBR := Lib.hid hbel
        clear hbel
        by_cases hlt : j < g.es.length
        · obtain ⟨bm, offm, rfl, hbm, cm⟩ := Ints.cells HSR.out.b8.mo.es (k := j) (by omega)
          have q0 := cm j (by omega)
          rw [HME.out j hlt] at q0
          obtain ⟨be, offe, rfl, hbe, cge⟩ := Eds.cells HSR.out.b0.gr.es hlt
          obtain ⟨k0, k1, k2⟩ := cge j hlt
          obtain ⟨⟨f1, f2⟩, f3, f4⟩ := valid_at HVA.out hlt
          have hEV := HE1'.out j hlt
          have hmv : mvd g vs j = ⟨(g.es.getD j default).ty, plc vs (g.es.getD j default).fr.toNat, plc vs (g.es.getD j default).to.toNat⟩ := rfl
          have hi0 : (0 : Int) ≤ (j : Int) := by omega
          have hi1 : (j : Int) < (g.es.length : Int) := by omega
          have hi2 : ((j : Int)).toNat = j := by omega
          obtain ⟨d2, d3⟩ := HSR.out.b0.cells
          have y1 := HSR.out.b0.lt
          clear cm cge
          generalize g.es.getD j default = x at k0 k1 k2 f1 f2 f3 f4 hmv
          obtain ⟨ty, fr, tt⟩ := x
          dsimp only at k0 k1 k2 f1 f2 f3 f4 hmv
          obtain ⟨a, rfl⟩ : ∃ a : Nat, fr = a := ⟨fr.toNat, by omega⟩
          obtain ⟨b, rfl⟩ : ∃ b : Nat, tt = b := ⟨tt.toNat, by omega⟩
          rw [Int.toNat_natCast, Int.toNat_natCast] at hmv
          have HBE := Lib.hid (HBR.out.trans ((below_a wr (.cells #[.int .i64 ty, .int .i64 (a : Int), .int .i64 (b : Int)] 36 (0, 0))).mono HBR.out.size))
          by_cases hin : (j : Int) ∈ xs
          · rw [plc_in hin] at q0
            clear hin hEV hmv f1 f2 f3 f4
            go_wp2_with fail
            go_quiet (fail)
            go_wp2_with fail
            go_roundw
            case rel => exact ⟨j + 1, by omega, by go_num, below_draws HBE.out _⟩
            case measure => simp [intOf]; omega
          · obtain ⟨k, e1, e2, e3⟩ := hEV hin
            rw [e1] at q0
            rw [hmv] at e3
            obtain ⟨b7, off7, rfl, hb7, c7⟩ := Eds.cells HSR.out.b7.gr.es e2
            obtain ⟨q1, q2, q3⟩ := c7 k e2
            rw [e3] at q1 q2 q3
            dsimp only at q1 q2 q3
            have ha : a < g.ns.length := by omega
            have hb : b < g.ns.length := by omega
            obtain ⟨bn, offn, rfl, hbn, cn2⟩ := Ints.cells HSR.out.b8.mo.ns (k := a) (by omega)
            have q4 := cn2 a (by omega)
            have q5 := cn2 b (by omega)
            rw [HMN.out a ha] at q4
            rw [HMN.out b hb] at q5
            clear c7 cn2 hin e1 e3 hmv f1 f2 f3 f4 hEV
            generalize plc vs a = pa at q2 q4
            generalize plc vs b = pb at q3 q5
            obtain ⟨d0, d1⟩ := HSR.out.b7.cells
            obtain ⟨d4, d5⟩ := HSR.out.b8.cells
            have y0 := HSR.out.b7.lt
            have y2 := HSR.out.b8.lt
            have hk0 : (0 : Int) ≤ (k : Int) := by omega
            have hk1 : (k : Int) < (G.es.length : Int) := by omega
            have hk2 : ((k : Int)).toNat = k := by omega
            have ja0 : (0 : Int) ≤ (a : Int) := by omega
            have ja1 : (a : Int) < (g.ns.length : Int) := by omega
            have ja2 : ((a : Int)).toNat = a := by omega
            have jb0 : (0 : Int) ≤ (b : Int) := by omega
            have jb1 : (b : Int) < (g.ns.length : Int) := by omega
            have jb2 : ((b : Int)).toNat = b := by omega
            go_wp2_with fail
            go_quiet (fail)
            go_wp2_with fail
            go_roundw
            case rel => exact ⟨j + 1, by omega, by go_num, below_draws HBE.out _⟩
            case measure => simp [intOf]; omega
        · have HBF := Lib.hid HSR.out.be
          have e : j = g.es.length := by omega
          subst e
          go_wp2_with fail
          go_ret
          exact ⟨rfl, HBF.out⟩

end Go.Proofs.Ytiafmhdicgmfaaa
