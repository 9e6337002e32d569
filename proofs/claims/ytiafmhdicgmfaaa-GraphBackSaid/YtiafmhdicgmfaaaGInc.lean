/-
  Graphs: Incident, of the program and the reference.
-/
import Derived.Test.YtiafmhdicgmfaaaGFr
import Derived.Test.YtiafmhdicgmfaaaGParts
import Derived.Test.YtiafmhdicgmfaaaGChk
import Derived.Test.YtiafmhdicgmfaaaGValR
namespace Go.Proofs.Ytiafmhdicgmfaaa
open Go.RowKit

/-- two rows lie in two blocks -/
def Ap (a b : Value) : Prop := ∀ q, a.ownBlock = some q → b.ownBlock ≠ some q
theorem Ap.symm {a b : Value} (h : Ap a b) : Ap b a := fun q h1 h2 => h q h2 h1
theorem Ap.kept {a b : Value} (h : Ap a b) : b.ownBlock = none ∨ b.ownBlock ≠ a.ownBlock := by
  cases e : b.ownBlock with
  | none => exact .inl rfl
  | some q => exact .inr fun e2 => h q e2.symm e
theorem ap_nil (b : Value) : Ap (.slice none 0 0) b := fun q h => by cases h
/-- one row has grown, the other stays -/
theorem app_two {W W' : World} {base : Nat} {a a' b : Value} {xs ys : List Int} (ha : OwnI W base a xs) (hb : OwnI W base b ys) (hap : Ap a b) (hbase : base ≤ W.heap.size) (hg : W.grownBy W' a.ownBlock) (ho : a'.ownBlock = a.ownBlock ∨ ∃ h, a'.ownBlock = some h ∧ W.heap.size ≤ h) :
    OwnI W' base b ys ∧ Ap a' b ∧ Grow 3 base W W' := by
  refine ⟨OwnE.kept hb hg hap.kept, fun q h1 h2 => ?_, Grow.own ha hg ((Below.refl base W).grown hg hbase (fun k hk => (OwnE.lt ha k hk).1))⟩
  rcases ho with e | ⟨h, e, hl⟩
  · exact hap q (e ▸ h1) h2
  · rw [e] at h1
    injection h1 with h1
    subst h1
    have := (OwnE.lt hb h h2).2
    omega
def IncC (f : FuncId) : Prop := ∀ (g : Gr) (v : Int) (An : Option Addr) (cn : Nat) (Ae : Option Addr) (ce : Nat) (w : World), GrAt w An cn Ae ce g →
  Calls Try.prog f #[gval An g.ns.length cn Ae g.es.length ce, .int .i64 v] w fun e w' => (∃ a b, e = .returned (.tuple #[a, b, .int .i64 (incE g v : Nat)]) ∧ IsI w' a (incI g v) ∧ IsI w' b (incO g v)) ∧ Below w.heap.size w w'
theorem ins_len (g : Gr) (v : Int) (k : Nat) : (insS g v k).length ≤ k := coll_le (fun i => by split <;> simp) k
theorem outs_len (g : Gr) (v : Int) (k : Nat) : (outsS g v k).length ≤ k := coll_le (fun i => by split <;> simp) k

set_option maxRecDepth 100000 in
set_option maxHeartbeats 8000000 in
theorem incP : IncC 27 := by
  intro g v An cn Ae ce w hT
  have HC := Lib.hid (checkIncident_any g v An cn Ae ce _ (hT.up (below_a w (.cells #[.slice An g.ns.length cn, .slice Ae g.es.length ce] 25 (0, 0)))))
  have HT := Lib.hid hT
  have HNO : Hid (incE g v ≠ 0 → incI g v = [] ∧ incO g v = []) := Lib.hid fun h => by unfold incI incO; rw [if_neg h, if_neg h]; exact ⟨rfl, rfl⟩
  have HYES : Hid (incE g v = 0 → incI g v = insS g v g.es.length ∧ incO g v = outsS g v g.es.length) := Lib.hid fun h => by unfold incI incO; rw [if_pos h, if_pos h]; exact ⟨rfl, rfl⟩
  have HZ := Lib.hid (fun h => inc_zero (g := g) (v := v) h)
  have HI := Lib.hid (fun k => show insS g v (k + 1) = insS g v k ++ (if (g.es.getD k default).to = v then [(k : Int)] else []) from rfl)
  have HO := Lib.hid (fun k => show outsS g v (k + 1) = outsS g v k ++ (if (g.es.getD k default).fr = v then [(k : Int)] else []) from rfl)
  have HIL := Lib.hid (fun k => ins_len g v k)
  have HOL := Lib.hid (fun k => outs_len g v k)
  have HI0 : Hid (insS g v 0 = []) := Lib.hid rfl
  have HO0 : Hid (outsS g v 0 = []) := Lib.hid rfl
  clear hT
  generalize incE g v = R at HC HNO HYES HZ ⊢
  generalize incI g v = rI at HNO HYES ⊢
  generalize incO g v = rO at HNO HYES ⊢
  generalize insS g v = nI at HYES HI HIL HI0 ⊢
  generalize outsS g v = nO at HYES HO HOL HO0 ⊢
  go_enter Try.func27, Try.ntmps27
  go_wp2_with fail
  refine HC.out.mono ?_
  rintro e w1 ⟨rfl, hb1⟩
  have hb1' := below_one' hb1
  obtain ⟨c0, c1⟩ := box_cell hb1'
  have HB := Lib.hid hb1'
  have hs1 : w.heap.size + 1 ≤ w1.heap.size := by have := hb1'.size; simpa using this
  clear hb1 hb1' HC
  by_cases hR : R = 0
  case neg =>
    obtain ⟨e1, e2⟩ := HNO.out hR
    subst e1 e2
    have HBw := Lib.hid (box_below HB.out)
    have t1 : ((R : Int) != 0) = true := by simp; omega
    clear hR
    go_wp2_with fail
    refine bodyPost_ret (v := .tuple #[.slice none 0 0, .slice none 0 0, .int .i64 (R : Nat)]) (by simp [results, Try.results27, go_sem]) rfl ?_
    exact ⟨⟨_, _, rfl, isI_nil _, isI_nil _⟩, HBw.out⟩
  obtain ⟨e1, e2⟩ := HYES.out hR
  subst e1 e2
  subst hR
  obtain ⟨hv0, _, _⟩ := HZ.out rfl
  obtain ⟨_, l2, _⟩ := valid_zero hv0
  clear HNO HYES HZ hv0
  go_wp2_with fail
  clear c0 c1 hs1
  go_loopw [8, 9, 21] (fun va vb vi wr => ∃ k : Nat, k ≤ g.es.length ∧ vi = .int .i64 k ∧ OwnI wr (w.heap.size + 1) va (nI k) ∧ OwnI wr (w.heap.size + 1) vb (nO k) ∧ Ap va vb ∧ Below (w.heap.size + 1) (w.alloc (.cells #[.slice An g.ns.length cn, .slice Ae g.es.length ce] 25 (0, 0))) wr) (fun _ _ vi _ => g.es.length - (intOf vi).toNat)
  case atStart => exact ⟨0, Nat.zero_le _, rfl, by rw [HI0.out]; exact OwnE.nil _ _ _, by rw [HO0.out]; exact OwnE.nil _ _ _, ap_nil _, HB.out⟩
  case round =>
    clear HB
    obtain ⟨k, hk, rfl, hoa, hob, hap, hbel⟩ := hrel
    have hs1 : w.heap.size + 1 ≤ wr.heap.size := by have := hbel.size; simpa using this
    have HB := Lib.hid hbel
    have HBw := Lib.hid (box_below hbel)
    obtain ⟨aa, ca, rfl⟩ := OwnE.slice hoa
    obtain ⟨ab, cb, rfl⟩ := OwnE.slice hob
    have HA := Lib.hid hoa
    have HBB := Lib.hid hob
    have HAP := Lib.hid hap
    clear hoa hob hap hbel
    have hl1 := HIL.out k
    have hl2 := HOL.out k
    by_cases hlt : k < g.es.length
    · obtain ⟨bb, off, rfl, hbb, hc⟩ := Eds.cells (HT.out.es.below HBw.out) hlt
      obtain ⟨k0, k1, k2⟩ := hc k hlt
      have h1 := HI.out k
      have h2 := HO.out k
      clear hc
      generalize g.es.getD k default = x at k0 k1 k2 h1 h2
      obtain ⟨ty, fr, tt⟩ := x
      dsimp only at k0 k1 k2 h1 h2
      have hk0 : (0 : Int) ≤ (k : Int) := by omega
      have hk1 : (k : Int) < (g.es.length : Int) := by omega
      have hk2 : ((k : Int)).toNat = k := by omega
      have HE0 := Lib.hid (show EdIs wr.heap.size ⟨ty, fr, tt⟩ (wr.alloc (.cells #[.int .i64 ty, .int .i64 fr, .int .i64 tt] 36 (0, 0))) from heap_alloc_new _ _)
      have HA0 := Lib.hid (HA.out.alloc (.cells #[.int .i64 ty, .int .i64 fr, .int .i64 tt] 36 (0, 0)))
      have HBB0 := Lib.hid (HBB.out.alloc (.cells #[.int .i64 ty, .int .i64 fr, .int .i64 tt] 36 (0, 0)))
      have HB0 := Lib.hid (HB.out.alloc hs1 (.cells #[.int .i64 ty, .int .i64 fr, .int .i64 tt] 36 (0, 0)))
      have hlt2 : wr.heap.size < (wr.alloc (.cells #[.int .i64 ty, .int .i64 fr, .int .i64 tt] 36 (0, 0))).heap.size := by simp
      generalize hwx : wr.alloc (.cells #[.int .i64 ty, .int .i64 fr, .int .i64 tt] 36 (0, 0)) = wx at HE0 HA0 HBB0 HB0 hlt2
      have hsx : w.heap.size + 1 ≤ wx.heap.size := by omega
      obtain ⟨k3, k4, k5⟩ := cell3 HE0.out
      by_cases ht : tt = v
      · rw [if_pos ht] at h1
        subst ht
        have t1 : (tt == tt) = true := by simp
        have H1 := Lib.hid h1
        clear h1
        go_wp2_with (at_builtin; refine wpList_append_int_at (w := wx.alloc _) rfl _ _ rfl (w.heap.size + 1) _ (nI k) rfl ?y1 wx.heap.size 1 (k : Int) rfl ?y2 ?y3 ?y4 ?_)
        case y1 => exact HA0.out.alloc _
        try case y2 => exact cell_new _ _ _
        case y3 => omega
        case y4 => first | omega | (simp; omega)
        intro v3 w3 ho3 hg3 hor3
        obtain ⟨hb3, hap3, hgr3⟩ := app_two (a' := v3) (HA0.out.alloc _) (HBB0.out.alloc _) HAP.out (by simp; omega) hg3 (by simpa using hor3)
        have ho3' := OwnE.cast H1.out.symm ho3
        obtain ⟨a3, c3, rfl⟩ := OwnE.slice ho3'
        have HI3 := Lib.hid ho3'
        have HO3 := Lib.hid hb3
        have HAP3 := Lib.hid hap3
        have HE3 := Lib.hid (show EdIs wr.heap.size ⟨ty, fr, tt⟩ w3 from hgr3.2 _ _ _ (by decide) (heap_up (below_a _ _) HE0.out))
        have HB3 := Lib.hid ((HB0.out.trans ((below_a wx _).mono (by omega))).trans hgr3.1)
        have hs3 : w.heap.size + 1 ≤ w3.heap.size := by have := hgr3.1.size; simp at this; omega
        clear ho3 ho3' hg3 hor3 hb3 hap3 hgr3 k3 k4 k5
        obtain ⟨k3, k4, k5⟩ := cell3 HE3.out
        have hlt3 := heap_lt HE3.out
        by_cases hf : fr = tt
        · rw [if_pos hf] at h2
          subst hf
          have t2 : (fr == fr) = true := by simp
          have H2 := Lib.hid h2
          clear h2
          go_wp2_with (at_builtin; refine wpList_append_int_at (w := w3.alloc _) rfl _ _ rfl (w.heap.size + 1) _ (nO k) rfl ?z1 w3.heap.size 1 (k : Int) rfl ?z2 ?z3 ?z4 ?_)
          case z1 => exact HO3.out.alloc _
          try case z2 => exact cell_new _ _ _
          case z3 => omega
          case z4 => first | omega | (simp; omega)
          intro v4 w4 ho4 hg4 hor4
          obtain ⟨hb4, hap4, hgr4⟩ := app_two (a' := v4) (HO3.out.alloc _) (HI3.out.alloc _) HAP3.out.symm (by simp; omega) hg4 (by simpa using hor4)
          have ho4' := OwnE.cast H2.out.symm ho4
          obtain ⟨a4, c4, rfl⟩ := OwnE.slice ho4'
          have HO4 := Lib.hid ho4'
          have HI4 := Lib.hid hb4
          have HAP4 := Lib.hid hap4
          have HB4 := Lib.hid ((HB3.out.trans ((below_a w3 _).mono (by omega))).trans hgr4.1)
          clear ho4 ho4' hg4 hor4 hb4 hap4 hgr4
          go_wp2_with fail
          go_roundw
          case rel => exact ⟨k + 1, by omega, by go_num, HI4.out, HO4.out, HAP4.out.symm, HB4.out⟩
          case measure => simp [intOf]; omega
        · rw [if_neg hf, List.append_nil] at h2
          have t2 : (fr == tt) = false := ne_beq hf
          have H2 := Lib.hid h2
          clear h2 hf
          go_wp2_with fail
          go_roundw
          case rel => exact ⟨k + 1, by omega, by go_num, HI3.out, (OwnE.cast H2.out.symm HO3.out), HAP3.out, HB3.out⟩
          case measure => simp [intOf]; omega
      · rw [if_neg ht, List.append_nil] at h1
        have t1 : (tt == v) = false := ne_beq ht
        have HI3 := Lib.hid (OwnE.cast h1.symm HA0.out)
        clear h1 ht
        by_cases hf : fr = v
        · rw [if_pos hf] at h2
          subst hf
          have t2 : (fr == fr) = true := by simp
          have H2 := Lib.hid h2
          clear h2
          go_wp2_with (at_builtin; refine wpList_append_int_at (w := wx.alloc _) rfl _ _ rfl (w.heap.size + 1) _ (nO k) rfl ?x1 wx.heap.size 1 (k : Int) rfl ?x2 ?x3 ?x4 ?_)
          case x1 => exact HBB0.out.alloc _
          try case x2 => exact cell_new _ _ _
          case x3 => omega
          case x4 => first | omega | (simp; omega)
          intro v4 w4 ho4 hg4 hor4
          obtain ⟨hb4, hap4, hgr4⟩ := app_two (a' := v4) (HBB0.out.alloc _) (HI3.out.alloc _) HAP.out.symm (by simp; omega) hg4 (by simpa using hor4)
          have ho4' := OwnE.cast H2.out.symm ho4
          obtain ⟨a4, c4, rfl⟩ := OwnE.slice ho4'
          have HO4 := Lib.hid ho4'
          have HI4 := Lib.hid hb4
          have HAP4 := Lib.hid hap4
          have HB4 := Lib.hid ((HB0.out.trans ((below_a wx _).mono (by omega))).trans hgr4.1)
          clear ho4 ho4' hg4 hor4 hb4 hap4 hgr4
          go_wp2_with fail
          go_roundw
          case rel => exact ⟨k + 1, by omega, by go_num, HI4.out, HO4.out, HAP4.out.symm, HB4.out⟩
          case measure => simp [intOf]; omega
        · rw [if_neg hf, List.append_nil] at h2
          have t2 : (fr == v) = false := ne_beq hf
          have H2 := Lib.hid h2
          clear h2 hf
          go_wp2_with fail
          go_roundw
          case rel => exact ⟨k + 1, by omega, by go_num, HI3.out, (OwnE.cast H2.out.symm HBB0.out), HAP.out, HB0.out⟩
          case measure => simp [intOf]; omega
    · have e : k = g.es.length := by omega
      subst e
      have HF1 := Lib.hid (isI_own HA.out)
      have HF2 := Lib.hid (isI_own HBB.out)
      go_wp2_with fail
      refine bodyPost_ret (v := .tuple #[.slice aa (nI g.es.length).length ca, .slice ab (nO g.es.length).length cb, .int .i64 0]) (by simp [results, Try.results27, go_sem]) rfl ?_
      exact ⟨⟨_, _, rfl, HF1.out, HF2.out⟩, HBw.out⟩

set_option maxRecDepth 100000 in
set_option maxHeartbeats 8000000 in
theorem incR : IncC 28 := by
  intro g v An cn Ae ce w hT
  have HC := Lib.hid (validR_any g An cn Ae ce _ (hT.up (below_a w (.cells #[.slice An g.ns.length cn, .slice Ae g.es.length ce] 25 (0, 0)))))
  have HT := Lib.hid hT
  have HNO : Hid (incE g v ≠ 0 → incI g v = [] ∧ incO g v = []) := Lib.hid fun h => by unfold incI incO; rw [if_neg h, if_neg h]; exact ⟨rfl, rfl⟩
  have HYES : Hid (incE g v = 0 → incI g v = insS g v g.es.length ∧ incO g v = outsS g v g.es.length) := Lib.hid fun h => by unfold incI incO; rw [if_pos h, if_pos h]; exact ⟨rfl, rfl⟩
  have HE1 : Hid (validE g ≠ 0 → incE g v = validE g) := Lib.hid fun h => by unfold incE; rw [if_pos h]
  have HE2 : Hid (validE g = 0 → idxB v g.ns.length = false → incE g v = 6) := Lib.hid fun h h2 => by unfold incE; rw [if_neg (by omega), if_pos h2]
  have HE3 : Hid (validE g = 0 → idxB v g.ns.length = true → incE g v = 0) := Lib.hid fun h h2 => by unfold incE; rw [if_neg (by omega), if_neg (by rw [h2]; exact Bool.noConfusion)]
  have HZ := Lib.hid (fun h => valid_zero (g := g) h)
  have HI := Lib.hid (fun k => show insS g v (k + 1) = insS g v k ++ (if (g.es.getD k default).to = v then [(k : Int)] else []) from rfl)
  have HO := Lib.hid (fun k => show outsS g v (k + 1) = outsS g v k ++ (if (g.es.getD k default).fr = v then [(k : Int)] else []) from rfl)
  have HIL := Lib.hid (fun k => ins_len g v k)
  have HOL := Lib.hid (fun k => outs_len g v k)
  have HI0 : Hid (insS g v 0 = []) := Lib.hid rfl
  have HO0 : Hid (outsS g v 0 = []) := Lib.hid rfl
  clear hT
  generalize incE g v = R at HNO HYES HE1 HE2 HE3 ⊢
  generalize incI g v = rI at HNO HYES ⊢
  generalize incO g v = rO at HNO HYES ⊢
  generalize insS g v = nI at HYES HI HIL HI0 ⊢
  generalize outsS g v = nO at HYES HO HOL HO0 ⊢
  generalize validE g = V at HC HE1 HE2 HE3 HZ
  go_enter Try.func28, Try.ntmps28
  go_wp2_with fail
  refine HC.out.mono ?_
  rintro e w1 ⟨rfl, hb1⟩
  have hb1' := below_one' hb1
  obtain ⟨c0, c1⟩ := box_cell hb1'
  have HB := Lib.hid hb1'
  have HBw := Lib.hid (box_below HB.out)
  have hs1 : w.heap.size + 1 ≤ w1.heap.size := by have := hb1'.size; simpa using this
  clear hb1 hb1' HC
  by_cases hV : V = 0
  case neg =>
    have e0 := HE1.out hV
    subst e0
    obtain ⟨e1, e2⟩ := HNO.out hV
    subst e1 e2
    have t1 : ((R : Int) != 0) = true := by simp; omega
    clear hV HNO HYES HE1 HE2 HE3 HZ
    go_wp2_with fail
    refine bodyPost_ret (v := .tuple #[.slice none 0 0, .slice none 0 0, .int .i64 (R : Nat)]) (by simp [results, Try.results28, go_sem]) rfl ?_
    exact ⟨⟨_, _, rfl, isI_nil _, isI_nil _⟩, HBw.out⟩
  subst hV
  obtain ⟨l1, l2, _⟩ := HZ.out rfl
  by_cases hI : 0 ≤ v ∧ v < g.ns.length
  case neg =>
    have e0 := HE2.out rfl (by rw [idxB_not]; omega)
    obtain ⟨e1, e2⟩ := HNO.out (by omega)
    subst e0 e1 e2
    clear HNO HYES HE1 HE2 HE3 HZ
    by_cases h0 : 0 ≤ v
    · have h1 : (g.ns.length : Int) ≤ v := by omega
      have t0 : decide (v < 0) = false := decide_eq_false (by omega)
      have t1 : decide ((g.ns.length : Int) ≤ v) = true := decide_eq_true h1
      clear hI
      go_wp2_with fail
      refine bodyPost_ret (v := .tuple #[.slice none 0 0, .slice none 0 0, .int .i64 6]) (by simp [results, Try.results28, go_sem]) rfl ?_
      exact ⟨⟨_, _, rfl, isI_nil _, isI_nil _⟩, HBw.out⟩
    · have t0 : decide (v < 0) = true := decide_eq_true (by omega)
      clear hI
      go_wp2_with fail
      refine bodyPost_ret (v := .tuple #[.slice none 0 0, .slice none 0 0, .int .i64 6]) (by simp [results, Try.results28, go_sem]) rfl ?_
      exact ⟨⟨_, _, rfl, isI_nil _, isI_nil _⟩, HBw.out⟩
  have e0 := HE3.out rfl (idxB_iff.2 hI)
  obtain ⟨e1, e2⟩ := HYES.out e0
  subst e0 e1 e2
  obtain ⟨hv0, hv1⟩ := hI
  have t0 : decide (v < 0) = false := decide_eq_false (by omega)
  have t1 : decide ((g.ns.length : Int) ≤ v) = false := decide_eq_false (by omega)
  clear HNO HYES HE1 HE2 HE3 HZ
  go_wp2_with fail
  clear c0 c1 hs1 HBw t0 t1
  go_loopw [8, 9, 10] (fun va vb vi wr => ∃ k : Nat, k ≤ g.es.length ∧ vi = .int .i64 k ∧ OwnI wr (w.heap.size + 1) va (nI k) ∧ OwnI wr (w.heap.size + 1) vb (nO k) ∧ Ap va vb ∧ Below (w.heap.size + 1) (w.alloc (.cells #[.slice An g.ns.length cn, .slice Ae g.es.length ce] 25 (0, 0))) wr) (fun _ _ vi _ => g.es.length - (intOf vi).toNat)
  case atStart => exact ⟨0, Nat.zero_le _, rfl, by rw [HI0.out]; exact OwnE.nil _ _ _, by rw [HO0.out]; exact OwnE.nil _ _ _, ap_nil _, HB.out⟩
  case round =>
    clear HB
    obtain ⟨k, hk, rfl, hoa, hob, hap, hbel⟩ := hrel
    have hs1 : w.heap.size + 1 ≤ wr.heap.size := by have := hbel.size; simpa using this
    have HB := Lib.hid hbel
    have HBw := Lib.hid (box_below hbel)
    obtain ⟨c0, c1⟩ := box_cell hbel
    obtain ⟨aa, ca, rfl⟩ := OwnE.slice hoa
    obtain ⟨ab, cb, rfl⟩ := OwnE.slice hob
    have HA := Lib.hid hoa
    have HBB := Lib.hid hob
    have HAP := Lib.hid hap
    clear hoa hob hap hbel
    have hl1 := HIL.out k
    have hl2 := HOL.out k
    by_cases hlt : k < g.es.length
    · obtain ⟨bb, off, rfl, hbb, hc⟩ := Eds.cells (HT.out.es.below HBw.out) hlt
      obtain ⟨k0, k1, k2⟩ := hc k hlt
      have h1 := HI.out k
      have h2 := HO.out k
      clear hc
      generalize hgx : g.es.getD k default = x at k0 k1 k2 h1 h2
      obtain ⟨ty, fr, tt⟩ := x
      dsimp only at k0 k1 k2 h1 h2
      have hk0 : (0 : Int) ≤ (k : Int) := by omega
      have hk1 : (k : Int) < (g.es.length : Int) := by omega
      have hk2 : ((k : Int)).toNat = k := by omega
      by_cases ht : tt = v
      · rw [if_pos ht] at h1
        subst ht
        have t1 : (tt == tt) = true := by simp
        have H1 := Lib.hid h1
        clear h1
        go_wp2_with (at_builtin; refine wpList_append_int_at (w := wr.alloc _) rfl _ _ rfl (w.heap.size + 1) _ (nI k) rfl ?y1 wr.heap.size 1 (k : Int) rfl ?y2 ?y3 ?y4 ?_)
        case y1 => exact HA.out.alloc _
        try case y2 => exact cell_new _ _ _
        case y3 => omega
        case y4 => first | omega | (simp; omega)
        intro v3 w3 ho3 hg3 hor3
        obtain ⟨hb3, hap3, hgr3⟩ := app_two (a' := v3) (HA.out.alloc _) (HBB.out.alloc _) HAP.out (by simp; omega) hg3 (by simpa using hor3)
        have ho3' := OwnE.cast H1.out.symm ho3
        obtain ⟨a3, c3, rfl⟩ := OwnE.slice ho3'
        have HI3 := Lib.hid ho3'
        have HO3 := Lib.hid hb3
        have HAP3 := Lib.hid hap3
        have HB3 := Lib.hid ((HB.out.trans ((below_a wr _).mono (by omega))).trans hgr3.1)
        have hs3 : w.heap.size + 1 ≤ w3.heap.size := by have := hgr3.1.size; simp at this; omega
        clear ho3 ho3' hg3 hor3 hb3 hap3 hgr3 c0 c1 k0 k1 k2
        obtain ⟨c0, c1⟩ := box_cell HB3.out
        obtain ⟨bb2, off2, e3, hbb2, hc2⟩ := Eds.cells (HT.out.es.below (box_below HB3.out)) hlt
        simp only [Option.some.injEq, Addr.mk.injEq, and_true] at e3
        obtain ⟨rfl, rfl⟩ := e3
        obtain ⟨k0, k1, k2⟩ := hc2 k hlt
        rw [hgx] at k0 k1 k2
        dsimp only at k0 k1 k2
        clear hc2
        by_cases hf : fr = tt
        · rw [if_pos hf] at h2
          subst hf
          have t2 : (fr == fr) = true := by simp
          have H2 := Lib.hid h2
          clear h2
          go_wp2_with (at_builtin; refine wpList_append_int_at (w := w3.alloc _) rfl _ _ rfl (w.heap.size + 1) _ (nO k) rfl ?z1 w3.heap.size 1 (k : Int) rfl ?z2 ?z3 ?z4 ?_)
          case z1 => exact HO3.out.alloc _
          try case z2 => exact cell_new _ _ _
          case z3 => omega
          case z4 => first | omega | (simp; omega)
          intro v4 w4 ho4 hg4 hor4
          obtain ⟨hb4, hap4, hgr4⟩ := app_two (a' := v4) (HO3.out.alloc _) (HI3.out.alloc _) HAP3.out.symm (by simp; omega) hg4 (by simpa using hor4)
          have ho4' := OwnE.cast H2.out.symm ho4
          obtain ⟨a4, c4, rfl⟩ := OwnE.slice ho4'
          have HO4 := Lib.hid ho4'
          have HI4 := Lib.hid hb4
          have HAP4 := Lib.hid hap4
          have HB4 := Lib.hid ((HB3.out.trans ((below_a w3 _).mono (by omega))).trans hgr4.1)
          clear ho4 ho4' hg4 hor4 hb4 hap4 hgr4
          go_wp2_with fail
          go_roundw
          case rel => exact ⟨k + 1, by omega, by go_num, HI4.out, HO4.out, HAP4.out.symm, HB4.out⟩
          case measure => simp [intOf]; omega
        · rw [if_neg hf, List.append_nil] at h2
          have t2 : (fr == tt) = false := ne_beq hf
          have H2 := Lib.hid h2
          clear h2 hf
          go_wp2_with fail
          go_roundw
          case rel => exact ⟨k + 1, by omega, by go_num, HI3.out, (OwnE.cast H2.out.symm HO3.out), HAP3.out, HB3.out⟩
          case measure => simp [intOf]; omega
      · rw [if_neg ht, List.append_nil] at h1
        have t1 : (tt == v) = false := ne_beq ht
        have HI3 := Lib.hid (OwnE.cast h1.symm HA.out)
        clear h1 ht
        by_cases hf : fr = v
        · rw [if_pos hf] at h2
          subst hf
          have t2 : (fr == fr) = true := by simp
          have H2 := Lib.hid h2
          clear h2
          go_wp2_with (at_builtin; refine wpList_append_int_at (w := wr.alloc _) rfl _ _ rfl (w.heap.size + 1) _ (nO k) rfl ?x1 wr.heap.size 1 (k : Int) rfl ?x2 ?x3 ?x4 ?_)
          case x1 => exact HBB.out.alloc _
          try case x2 => exact cell_new _ _ _
          case x3 => omega
          case x4 => first | omega | (simp; omega)
          intro v4 w4 ho4 hg4 hor4
          obtain ⟨hb4, hap4, hgr4⟩ := app_two (a' := v4) (HBB.out.alloc _) (HI3.out.alloc _) HAP.out.symm (by simp; omega) hg4 (by simpa using hor4)
          have ho4' := OwnE.cast H2.out.symm ho4
          obtain ⟨a4, c4, rfl⟩ := OwnE.slice ho4'
          have HO4 := Lib.hid ho4'
          have HI4 := Lib.hid hb4
          have HAP4 := Lib.hid hap4
          have HB4 := Lib.hid ((HB.out.trans ((below_a wr _).mono (by omega))).trans hgr4.1)
          clear ho4 ho4' hg4 hor4 hb4 hap4 hgr4
          go_wp2_with fail
          go_roundw
          case rel => exact ⟨k + 1, by omega, by go_num, HI4.out, HO4.out, HAP4.out.symm, HB4.out⟩
          case measure => simp [intOf]; omega
        · rw [if_neg hf, List.append_nil] at h2
          have t2 : (fr == v) = false := ne_beq hf
          have H2 := Lib.hid h2
          clear h2 hf
          go_wp2_with fail
          go_roundw
          case rel => exact ⟨k + 1, by omega, by go_num, HI3.out, (OwnE.cast H2.out.symm HBB.out), HAP.out, HB.out⟩
          case measure => simp [intOf]; omega
    · have e : k = g.es.length := by omega
      subst e
      have HF1 := Lib.hid (isI_own HA.out)
      have HF2 := Lib.hid (isI_own HBB.out)
      go_wp2_with fail
      refine bodyPost_ret (v := .tuple #[.slice aa (nI g.es.length).length ca, .slice ab (nO g.es.length).length cb, .int .i64 0]) (by simp [results, Try.results28, go_sem]) rfl ?_
      exact ⟨⟨_, _, rfl, HF1.out, HF2.out⟩, HBw.out⟩

end Go.Proofs.Ytiafmhdicgmfaaa
