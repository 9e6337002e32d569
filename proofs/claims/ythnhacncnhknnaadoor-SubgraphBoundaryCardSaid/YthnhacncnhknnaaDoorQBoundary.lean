import Derived.Test.YthnhacncnhknnaaDoorSSbL6
import Derived.Test.YthnhacncnhknnaaDoorZ11
import Derived.Test.YthnhacncnhknnaaDoorZ04
import Derived.Test.YthnhacncnhknnaaDoorZ10
import Derived.Test.YthnhacncnhknnaaDoorChecked
import Derived.Test.YthnhacncnhknnaaDoorRows
import Derived.Test.YthnhacncnhknnaaDoorTie
import Derived.Test.YthnhacncnhknnaaDoorCards
import Derived.SizedLaws
/-
  SubgraphBoundary. Printed by mkl7.py.
-/
namespace Go.Proofs.YthnhacncnhknnaaDoor
open Go.RowKit Go.Shelf

def cmpB (g : Gr) (T c : Mo) : Bool := decide (andL c.ns T.ns g.ns.length = []) || inP c T
theorem whole_iff {g : Gr} (hv : validE g = 0) {T : Mo} (hT : PartOk g T) : (compR g).all (cmpB g T) = decide ((bndL g T).length = 0) := by
  have h := bnd_whole hv hT
  rw [Bool.eq_iff_iff, List.all_eq_true, decide_eq_true_iff, List.length_eq_zero_iff, ← h]
  constructor
  · intro k c hc hn
    have := k c hc
    unfold cmpB at this
    rw [decide_eq_false hn, Bool.false_or] at this
    exact this
  · intro k c hc
    unfold cmpB
    by_cases e : andL c.ns T.ns g.ns.length = []
    · rw [decide_eq_true e]; rfl
    · rw [k c hc e, Bool.or_true]
theorem all_take_succ {l : List Mo} {f : Mo → Bool} {k : Nat} (h : k < l.length) : (l.take (k + 1)).all f = ((l.take k).all f && f l[k]) := by
  rw [List.take_succ_eq_append_getElem h, List.all_append]; simp
set_option maxRecDepth 100000 in
set_option maxHeartbeats 4000000 in
theorem lawBoundary7 (hC : CloseC 12) (hB : BndC 35) (hA : AllC 37) (g : Gr) (An : Option Addr) (cn : Nat) (Ae : Option Addr) (ce : Nat) (set : Nat) (w : World) (hT : TabV w) (hg : GrAt w An cn Ae ce g) (hset : set < 18446744073709551616) :
    Calls Tryd.prog 8 #[gval An g.ns.length cn Ae g.es.length ce, .int .u64 (set : Int)] w fun e w' => e = .returned (.bool true) ∧ Below w.heap.size w w' := by
  have HAW := Lib.hid (fun (u : World) (hu : Below w.heap.size w u) => awake7 hC hB hA u (hT.up hu))
  have HSM := Lib.hid (fun (u : World) (hu : Below w.heap.size w u) => small7_any g [] An cn Ae ce none 0 u (by simp) (hg.up hu) (by simp) (.inl rfl))
  have HV := Lib.hid (fun (u : World) (hu : Below w.heap.size w u) => validR_any g An cn Ae ce u (hg.up hu))
  have HMD := Lib.hid (fun (h : validE g = 0) (u : World) (hu : Below w.heap.size w u) => made7_any g set An cn Ae ce u h hset (hg.up hu))
  have HML := Lib.hid (fun (h : validE g = 0) => part_len h (made_ok h set))
  have HBD : Hid (validE g = 0 → ∀ (Tn : Option Addr) (tn : Nat) (Te : Option Addr) (te : Nat) (u : World), Below w.heap.size w u → PtAt u Tn Te (madeP g set) → GivesI 35 #[gval An g.ns.length cn Ae g.es.length ce, gval Tn (madeP g set).ns.length tn Te (madeP g set).es.length te] 0 (bndL g (madeP g set)) u) := Lib.hid fun hv Tn tn Te te u hu ht => by
    have h := hB g (madeP g set) An cn Ae ce Tn tn Te te u (hg.up hu) ht
    have e := part_zero.2 ⟨hv, made_ok hv set⟩
    rw [show bndR g (madeP g set) = bndL g (madeP g set) from if_pos e, e] at h
    exact h
  have HCO := Lib.hid (fun (u : World) (hu : Below w.heap.size w u) => compRf g An cn Ae ce u (hg.up hu))
  have HMT : Hid (validE g = 0 → ∀ c, c ∈ compR g → ∀ (Cn : Option Addr) (kn : Nat) (Ce : Option Addr) (ke : Nat) (Tn : Option Addr) (tn : Nat) (Te : Option Addr) (te : Nat) (u : World), Below w.heap.size w u → PtAt u Cn Ce c → PtAt u Tn Te (madeP g set) → GivesM 23 #[gval An g.ns.length cn Ae g.es.length ce, gval Cn c.ns.length kn Ce c.es.length ke, gval Tn (madeP g set).ns.length tn Te (madeP g set).es.length te] 0 (andP g c (madeP g set)) u) := Lib.hid fun hv c hc Cn kn Ce ke Tn tn Te te u hu h1 h2 => by
    have h := meet7_any g c (madeP g set) An cn Ae ce Cn kn Ce ke Tn tn Te te u (hg.up hu) h1 h2
    have e := two_zero.2 ⟨hv, comp_part hv hc, made_ok hv set⟩
    rw [show meetP g c (madeP g set) = andP g c (madeP g set) from if_pos e, e] at h
    exact h
  have HCL := Lib.hid (fun (hv : validE g = 0) c (hc : c ∈ compR g) => part_len hv (comp_part hv hc))
  have HCN : Hid (validE g = 0 → (compR g).length ≤ 1000) := Lib.hid fun hv => by
    obtain ⟨v1, _⟩ := valid_zero hv
    unfold compR
    rw [if_pos hv, compTo_len]
    exact Nat.le_trans (Nat.le_trans (List.length_filter_le _ _) (by simp; exact Nat.le_refl _)) (by omega)
  have HWH := Lib.hid (fun (hv : validE g = 0) => whole_iff hv (made_ok hv set))
  have HCB : Hid (∀ c, cmpB g (madeP g set) c = (decide ((andP g c (madeP g set)).ns = []) || inP c (madeP g set))) := Lib.hid fun c => rfl
  have HS0 : Hid (SV w [([.slice An g.ns.length cn, .slice Ae g.es.length ce], 25)] _) := Lib.hid (SV.push (SV.nil w) rfl [.slice An g.ns.length cn, .slice Ae g.es.length ce] 25)
  clear hT hC hB hA hg
  simp only [List.length_nil] at HSM
  generalize (fewB g && [].all (fun (x : PtV) => fewM x.p 150)) = s1 at *
  generalize cmpB g (madeP g set) = CB at *
  generalize madeP g set = T at *
  go_enter Tryd.func8, Tryd.ntmps8
  go_wp2_with fail
  refine (HAW.out _ (by first | exact HS0.out.1 | exact HS1.out.1 | exact HS2.out.1 | exact HS3.out.1)).mono ?_
  rintro e w1 ⟨rfl, hb⟩
  have HS1 := Lib.hid (HS0.out.up hb)
  clear hb HS0
  have c0 := HS1.out.cell (i := 0) (j := 0) rfl rfl
  have c1 := HS1.out.cell (i := 0) (j := 1) rfl rfl
  simp only [Nat.add_zero] at c0 c1
  go_wp2_with fail
  refine (HSM.out _ HS1.out.1).mono ?_
  rintro e w2 ⟨rfl, hb⟩
  have HS2 := Lib.hid (HS1.out.up hb)
  clear hb HS1 HSM c0 c1
  cases s1
  case false =>
    go_wp2_with fail
    refine (HAW.out _ (by first | exact HS0.out.1 | exact HS1.out.1 | exact HS2.out.1 | exact HS3.out.1)).mono ?_
    rintro e w9 ⟨rfl, hb9⟩
    go_wp2_with fail
    go_ret
    exact ⟨rfl, HS2.out.1.trans (hb9.mono HS2.out.1.size)⟩
  have c0 := HS2.out.cell (i := 0) (j := 0) rfl rfl
  have c1 := HS2.out.cell (i := 0) (j := 1) rfl rfl
  simp only [Nat.add_zero] at c0 c1
  go_wp2_with fail
  refine (HV.out _ HS2.out.1).mono ?_
  rintro e w3 ⟨rfl, hb⟩
  have HS3 := Lib.hid (HS2.out.up hb)
  clear hb HS2 HV c0 c1
  by_cases hv : validE g = 0
  case neg =>
    have t1 : ((validE g : Int) != 0) = true := by simp; omega
    clear hv
    generalize validE g = z at *
    go_wp2_with fail
    refine (HAW.out _ (by first | exact HS0.out.1 | exact HS1.out.1 | exact HS2.out.1 | exact HS3.out.1)).mono ?_
    rintro e w9 ⟨rfl, hb9⟩
    go_wp2_with fail
    go_ret
    exact ⟨rfl, HS3.out.1.trans (hb9.mono HS3.out.1.size)⟩
  have HMD9 := Lib.hid (HMD.out hv)
  have HML9 := Lib.hid (HML.out hv)
  have HBD9 := Lib.hid (HBD.out hv)
  have HMT9 := Lib.hid (HMT.out hv)
  have HCL9 := Lib.hid (HCL.out hv)
  have HCN9 := Lib.hid (HCN.out hv)
  have HWH9 := Lib.hid (HWH.out hv)
  have HVZ := Lib.hid hv
  have t1 : ((validE g : Int) != 0) = false := by simp; omega
  clear hv HMD HML HBD HMT HCL HCN HWH HAW
  generalize validE g = z at *
  generalize bndL g T = RB at *
  generalize compR g = L at *
  have c0 := HS3.out.cell (i := 0) (j := 0) rfl rfl
  have c1 := HS3.out.cell (i := 0) (j := 1) rfl rfl
  simp only [Nat.add_zero] at c0 c1
  go_wp2_with fail
  refine (HMD9.out _ HS3.out.1).mono ?_
  rintro e w4 ⟨⟨v, rfl, X1, x1, Y1, y1, rfl, hm⟩, hb⟩
  have S_w4 := Lib.hid (HS3.out.up hb)
  clear HS3
  have HPT_w4 := Lib.hid (show PtAt w4 X1 Y1 T from ⟨hm.ns, hm.es, HML9.out.1, HML9.out.2⟩)
  clear hb hm c0 c1 t1
  go_upto_region 4 with fail
  have hb : Below w4.heap.size w4 (w4.alloc (.cells #[.slice X1 T.ns.length x1, .slice Y1 T.es.length y1] 27)) := (Below.refl _ _).alloc (Nat.le_refl _) _
  have B1_W4 : Hid (BX w4.heap.size (.slice X1 T.ns.length x1) (.slice Y1 T.es.length y1) 27 (w4.alloc (.cells #[.slice X1 T.ns.length x1, .slice Y1 T.es.length y1] 27))) := Lib.hid (heap_alloc_new _ _)
  have S_W4 := Lib.hid (S_w4.out.up hb)
  have PT_W4 := Lib.hid (HPT_w4.out.up hb)
  clear S_w4 HPT_w4
  clear hb
  generalize w4.alloc (.cells #[.slice X1 T.ns.length x1, .slice Y1 T.es.length y1] 27) = W4 at *
  generalize w4.heap.size = g1 at *
  have c0 := S_W4.out.cell (i := 0) (j := 0) rfl rfl
  have c1 := S_W4.out.cell (i := 0) (j := 1) rfl rfl
  simp only [Nat.add_zero] at c0 c1
  obtain ⟨m10, m11⟩ := B1_W4.out.cells
  go_wp2_with fail
  refine (HBD9.out X1 x1 Y1 y1 _ S_W4.out.1 PT_W4.out).mono ?_
  rintro e w5 ⟨⟨X5, x5, rfl, r1, _⟩, hb⟩
  have S_w5 := Lib.hid (S_W4.out.up hb)
  have PT_w5 := Lib.hid (PT_W4.out.up hb)
  have B1_w5 := Lib.hid (B1_W4.out.up hb)
  clear S_W4 PT_W4 B1_W4
  clear hb r1 c0 c1 m10 m11
  have c0 := S_w5.out.cell (i := 0) (j := 0) rfl rfl
  have c1 := S_w5.out.cell (i := 0) (j := 1) rfl rfl
  simp only [Nat.add_zero] at c0 c1
  go_wp2_with fail
  refine (HCO.out _ S_w5.out.1).mono ?_
  rintro e w6 ⟨⟨v, rfl, AL, cL, rfl, hpt⟩, hb⟩
  have S_w6 := Lib.hid (S_w5.out.up hb)
  have PT_w6 := Lib.hid (PT_w5.out.up hb)
  have B1_w6 := Lib.hid (B1_w5.out.up hb)
  clear S_w5 PT_w5 B1_w5
  have HPL := Lib.hid hpt
  have hz := HVZ.out
  subst hz
  clear hb hpt c0 c1 HCO
  have hL := HCN9.out
  go_wp2_with fail
  skip
  go_loopw [10, 50] (fun b i wr => ∃ k : Nat, k ≤ L.length ∧ b = .bool ((L.take k).all CB) ∧ i = .int .i64 (k : Int) ∧ Below w6.heap.size w6 wr) (fun _ i _ => L.length - (intOf i).toNat)
  case atStart => exact ⟨0, Nat.zero_le _, by simp, rfl, Below.refl _ _⟩
  case round =>
    obtain ⟨k, hk, rfl, rfl, hbel⟩ := hrel
    have HBL := Lib.hid hbel
    have S_wr := Lib.hid (S_w6.out.up hbel)
    have B1_wr := Lib.hid (B1_w6.out.up hbel)
    have PT_wr := Lib.hid (PT_w6.out.up hbel)
    by_cases hlt : k < L.length
    · obtain ⟨b, off, cs, rfl, hb, hr, hc⟩ := DReads.at (HPL.out.up hbel) hlt
      have HMM := Lib.hid (HMT9.out _ (List.getElem_mem hlt))
      have HCC := Lib.hid (HCL9.out _ (List.getElem_mem hlt))
      have HCK := Lib.hid (HCB.out L[k])
      have HTK := Lib.hid (all_take_succ (f := CB) hlt)
      obtain ⟨A1, a1, A2, a2, rfl, r1, r2⟩ := hr
      have k0 := hc 0 _ rfl
      have k1 := hc 1 _ rfl
      generalize L[k] = c at *
      simp only [show DPart.size = 2 from rfl, Nat.add_zero] at k0 k1
      have PC_wr := Lib.hid (show PtAt wr A1 A2 c from ⟨r1, r2, HCC.out.1, HCC.out.2⟩)
      have i0 : (0 : Int) ≤ (k : Int) := by omega
      have i1 : (k : Int) < (L.length : Int) := by omega
      have i2 : ((k : Int)).toNat = k := by omega
      have HLT := Lib.hid hlt
      have HM : Hid (L.length - ((k : Int) + 1).toNat < L.length - ((k : Int)).toNat) := Lib.hid (by omega)
      generalize (L.take k).all CB = W at *
      generalize CB c = cb at *
      clear hc r1 r2 hbel hlt hb
      go_upto_region 12 with fail
      clear k0 k1
      have hb : Below wr.heap.size wr (wr.alloc (.cells #[.slice A1 c.ns.length a1, .slice A2 c.es.length a2] 27)) := (Below.refl _ _).alloc (Nat.le_refl _) _
      have B5_W7 : Hid (BX wr.heap.size (.slice A1 c.ns.length a1) (.slice A2 c.es.length a2) 27 (wr.alloc (.cells #[.slice A1 c.ns.length a1, .slice A2 c.es.length a2] 27))) := Lib.hid (heap_alloc_new _ _)
      have BW_W7 := Lib.hid (HBL.out.trans (hb.mono HBL.out.size))
      have S_W7 := Lib.hid (S_wr.out.up hb)
      have B1_W7 := Lib.hid (B1_wr.out.up hb)
      have PT_W7 := Lib.hid (PT_wr.out.up hb)
      have PC_W7 := Lib.hid (PC_wr.out.up hb)
      clear HBL S_wr B1_wr PT_wr PC_wr
      clear hb
      generalize wr.alloc (.cells #[.slice A1 c.ns.length a1, .slice A2 c.es.length a2] 27) = W7 at *
      generalize wr.heap.size = g5 at *
      have c0 := S_W7.out.cell (i := 0) (j := 0) rfl rfl
      have c1 := S_W7.out.cell (i := 0) (j := 1) rfl rfl
      simp only [Nat.add_zero] at c0 c1
      obtain ⟨m10, m11⟩ := B1_W7.out.cells
      obtain ⟨m50, m51⟩ := B5_W7.out.cells
      go_wp2_with fail
      refine (HMM.out A1 a1 A2 a2 X1 x1 Y1 y1 _ S_W7.out.1 PC_W7.out PT_W7.out).mono ?_
      rintro e w8 ⟨⟨X6, x6, Y6, y6, rfl, r1, r2, _, _⟩, hb⟩
      have BW_w8 := Lib.hid (BW_W7.out.trans (hb.mono BW_W7.out.size))
      have S_w8 := Lib.hid (S_W7.out.up hb)
      have B1_w8 := Lib.hid (B1_W7.out.up hb)
      have PT_w8 := Lib.hid (PT_W7.out.up hb)
      have PC_w8 := Lib.hid (PC_W7.out.up hb)
      have B5_w8 := Lib.hid (B5_W7.out.up hb)
      clear BW_W7 S_W7 B1_W7 PT_W7 PC_W7 B5_W7
      clear hb r1 r2 c0 c1 m10 m11 m50 m51
      generalize andP g c T = D at *
      go_upto_region 13 with fail
      have hb : Below w8.heap.size w8 (w8.alloc (.cells #[.slice X6 D.ns.length x6, .slice Y6 D.es.length y6] 27)) := (Below.refl _ _).alloc (Nat.le_refl _) _
      have B6_W8 : Hid (BX w8.heap.size (.slice X6 D.ns.length x6) (.slice Y6 D.es.length y6) 27 (w8.alloc (.cells #[.slice X6 D.ns.length x6, .slice Y6 D.es.length y6] 27))) := Lib.hid (heap_alloc_new _ _)
      have BW_W8 := Lib.hid (BW_w8.out.trans (hb.mono BW_w8.out.size))
      have S_W8 := Lib.hid (S_w8.out.up hb)
      have B1_W8 := Lib.hid (B1_w8.out.up hb)
      have PT_W8 := Lib.hid (PT_w8.out.up hb)
      have PC_W8 := Lib.hid (PC_w8.out.up hb)
      have B5_W8 := Lib.hid (B5_w8.out.up hb)
      clear BW_w8 S_w8 B1_w8 PT_w8 PC_w8 B5_w8
      clear hb
      generalize w8.alloc (.cells #[.slice X6 D.ns.length x6, .slice Y6 D.es.length y6] 27) = W8 at *
      generalize w8.heap.size = g6 at *
      obtain ⟨m10, m11⟩ := B1_W8.out.cells
      obtain ⟨m50, m51⟩ := B5_W8.out.cells
      obtain ⟨m60, m61⟩ := B6_W8.out.cells
      by_cases hn : D.ns = []
      · have hcb : cb = true := by rw [HCK.out, decide_eq_true hn]; rfl
        have HW : Hid ((L.take (k + 1)).all CB = W) := Lib.hid (by rw [HTK.out, hcb, Bool.and_true])
        have t3 : ¬ (0 : Int) < (D.ns.length : Int) := by rw [hn]; simp
        clear hn hcb
        go_wp2_with fail
        go_roundw
        case rel => exact ⟨k + 1, HLT.out, by rw [HW.out], by go_num, BW_W8.out⟩
        case measure => exact HM.out
      · have hcb : cb = inP c T := by rw [HCK.out, decide_eq_false hn, Bool.false_or]
        have t3 : (0 : Int) < (D.ns.length : Int) := by have := List.length_pos_iff.2 hn; omega
        have HIN := Lib.hid (in7_any c T A1 a1 A2 a2 X1 x1 Y1 y1 W8 PC_W8.out PT_W8.out)
        rw [← hcb] at HIN
        clear hn hcb
        cases cb
        case true =>
          have HW : Hid ((L.take (k + 1)).all CB = W) := Lib.hid (by rw [HTK.out, Bool.and_true])
          go_wp2_with fail
          refine HIN.out.mono ?_
          rintro e w9 ⟨rfl, hb⟩
          have HBZ := Lib.hid (BW_W8.out.trans (hb.mono BW_W8.out.size))
          clear hb m10 m11 m50 m51 m60 m61
          go_wp2_with fail
          go_roundw
          case rel => exact ⟨k + 1, HLT.out, by rw [HW.out], by go_num, HBZ.out⟩
          case measure => exact HM.out
        case false =>
          have HW : Hid ((L.take (k + 1)).all CB = false) := Lib.hid (by rw [HTK.out, Bool.and_false])
          go_wp2_with fail
          refine HIN.out.mono ?_
          rintro e w9 ⟨rfl, hb⟩
          have HBZ := Lib.hid (BW_W8.out.trans (hb.mono BW_W8.out.size))
          clear hb m10 m11 m50 m51 m60 m61
          go_wp2_with fail
          go_roundw
          case rel => exact ⟨k + 1, HLT.out, by rw [HW.out], by go_num, HBZ.out⟩
          case measure => exact HM.out
    · have e : k = L.length := by omega
      subst e
      have HBZ := Lib.hid (S_wr.out.1)
      have hw := HWH9.out
      rw [List.take_length]
      by_cases hr : RB.length = 0
      · have hW : L.all CB = true := by rw [hw, decide_eq_true hr]
        have t3 : ((RB.length : Int) == 0) = true := by simp [hr]
        rw [hW]
        clear hw hr hW hbel
        go_wp2_with fail
        go_ret
        exact ⟨rfl, HBZ.out⟩
      · have hW : L.all CB = false := by rw [hw, decide_eq_false hr]
        have t3 : ((RB.length : Int) == 0) = false := ne_beq (by omega)
        rw [hW]
        clear hw hr hW hbel
        go_wp2_with fail
        go_ret
        exact ⟨rfl, HBZ.out⟩

end Go.Proofs.YthnhacncnhknnaaDoor

/-
  The statement SubgraphBoundary: the law answers true for every input, and its arguments read as they did; its card.
-/
namespace Go.Proofs.YthnhacncnhknnaaDoor.subgraphBoundary
open Go.ChangeShapes Go.WideShapes Go.ChangeAt Go.RowKit Go.Deep

set_option maxRecDepth 100000 in
theorem lifted (os : Os) (started : os.Started) (H : Type) (enc : TypeId × Value → H) :
    ReturnsInHanded {} Tryd.checked os 8 .any (fun w args => (Rows.subgraphBoundarySpec.pre enc Tryd.prog Tryd.f8 Rows.subgraphBoundaryRow.domain false w args ∧ laidMetH Tryd.prog laidL w) ∧ sizedMet enc Tryd.prog Tryd.f8 (OpenSpec.ofChange Rows.subgraphBoundarySpec) false w args)
      (Rows.subgraphBoundarySpec.post enc Tryd.prog Tryd.f8 false true false false) := by
  refine returnsInHanded_of_change_and (C := Tryd.checked) (X := fun w _ => laidMetH Tryd.prog laidL w) (fun _ _ _ hh h => h.of_heap hh) ownNone started (by kernel_rfl) Tryd.func8
    (ChangeSpec.witness_shaped (enc := enc) (C := Tryd.checked) (os := os) (X := fun w _ => laidMetH Tryd.prog laidL w) false (World.laidAll Tryd.prog os laidL) #[.agg #[.slice none 0 0, .slice none 0 0], .int .u64 0] 8 (World.laidAll_os _ _ _)
      (shaped os _) (by kernel_rfl) (by kernel_rfl) (by kernel_rfl) (met os _)) ?_
  intro W base args ds gs before hval0 hW hcnd hsz0 hL _
  have hval : ∀ (j : Nat) t v, Tryd.f8.params[j]? = some t → args[j]? = some v → Value.okWide Tryd.prog W .any base t v := hval0
  have hsz : (DataW.weightsEach Tryd.prog (Tryd.f8.params.toList ++ Rows.subgraphBoundarySpec.plain.varTypes Tryd.prog) (ds ++ gs)).all (· ≤ reachBytes) = true := hsz0
  have hTab := tab_of_laid hL
  have hW' := hW
  obtain ⟨p, q, hA0, hV, rfl, hfz, hnd⟩ := hW
  have hA : DataW.TrodAll enc Tryd.prog W 0 (fun _ => true) true Tryd.f8.params.toList args.toList ds p := hA0
  rw [Tryd.params8] at hA hval hsz
  obtain ⟨v0, v1, d0, d1, p0, p1, rfl, rfl, rfl, h0, h1⟩ := trodAll_two hA
  obtain ⟨rfl, rfl⟩ := trodVars_none hV
  clear hA0 hval0 hsz0 hL hcnd
  simp only [List.append_nil] at hW'
  have hlt : ∀ x ∈ p0 ++ p1, x.block < W.heap.size := fun x hx => by simpa using hW'.lt x (by simpa using hx)
  have k0 := h0
  obtain ⟨cs0, rfl, _⟩ := okWide_struct Tryd.underlying25 (hval 0 25 v0 rfl rfl)
  obtain ⟨f0, g0⟩ := h0
  obtain ⟨t0, An0, cn0, Ae0, ce0, e0, hT0⟩ := open_G g0
  obtain rfl := agg_of (e0)
  have k1 := h1
  obtain ⟨m1, rfl⟩ := okWide_int Tryd.underlying28 (hval 1 28 v1 rfl rfl)
  obtain ⟨f1, g1⟩ := h1
  obtain ⟨n1, e1, _, hw1⟩ := DataW.trod_int Tryd.underlying28 g1
  simp [Value.cells] at e1
  subst e1
  obtain ⟨s1, rfl, hs1⟩ := u64_of hw1
  refine (lawBoundary7 closeG_any boundaryG_any allG_any t0 An0 cn0 Ae0 ce0 s1 W hTab hT0 hs1).mono fun e W' ⟨he, hg⟩ => ?_
  subst he
  exact ⟨_, rfl, _, _, _, [], p0 ++ p1, [], hW', trodAll_cons_mk (shut_bool Tryd.underlying4 _) trodAll_mk0, trodAll_mk2 (Below.trod laidOut (by kernel_rfl) (of_decide_eq_true (by kernel_rfl)) k0 hg (fun x hx => hlt x (List.mem_append_left _ hx))) (Below.trod laidOut (by kernel_rfl) (of_decide_eq_true (by kernel_rfl)) k1 hg (fun x hx => hlt x (List.mem_append_right _ hx))), rfl, hg.frame _, fun h => by cases h⟩

theorem f_holds : Rows.SubgraphBoundarySaid :=
  OpenClaim.holds_of_wide 8 Tryd.f8 rfl rfl rfl rfl rfl rfl rfl ⟨rfl, rfl, rfl, rfl, rfl⟩ rfl rfl rfl rfl rfl (by kernel_rfl) Tryd.func8 (by kernel_rfl)
    (of_decide_eq_true (by kernel_rfl)) (by unfold Func.isWrapper; first | (rw [if_pos (by decide +kernel)]; kernel_rfl) | (rw [if_neg (by decide +kernel)]; exact ⟨rfl, rfl⟩))
    (fun os started H enc _ => lifted os started H enc)

theorem proved : Rows.SubgraphBoundaryCardSaid :=
  Claim7.holds_tied_plain_at .later [] [.data, .data] true (true, "d40fe502c7eb20a2fb0b35b81948407b17b2b9d14f2ae580415a3ab91d0055d3") false
    f_holds (fun _ h => by cases h) (by kernel_rfl) (fun _ h => by cases h) subgraphBoundary_row_tie rfl ⟨rfl, rfl⟩ (by kernel_rfl) rfl
    (fun f fn hf hfn => by
      obtain rfl : f = 8 := Option.some.inj ((show Tryd.prog.funcNamed "scarfjoint/scarfjointlaw07.SubgraphBoundary" = some 8 by kernel_rfl).symm.trans hf) |>.symm
      obtain rfl : fn = Tryd.f8 := (Option.some.inj (Tryd.func8.symm.trans hfn)).symm
      exact ⟨by kernel_rfl, fun j t ht => by
        rw [Tryd.params8] at ht
        have hm : t ∈ [25, 28] := List.mem_of_getElem? (by simpa using ht)
        have hs : ∀ t ∈ [25, 28], Tryd.prog.wantsStandIn t = false := by
          intro t ht
          simp only [List.mem_cons, List.not_mem_nil, or_false] at ht
          rcases ht with rfl | rfl <;> kernel_rfl
        exact hs t hm⟩)
    (by kernel_rfl)

end Go.Proofs.YthnhacncnhknnaaDoor.subgraphBoundary
