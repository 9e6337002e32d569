/-
  Types, the program: Is, Ancestors, Below, Fits, Meet.
-/
import Derived.Test.YtgpcaofikmdpjaaQChk
namespace Go.Proofs.Ytgpcaofikmdpjaa
open Go.RowKit

set_option maxRecDepth 100000 in
set_option maxHeartbeats 2000000 in
theorem isP_any (hn : NameC 60) : IsC 15 := by
  intro t An cn Ae ce a b w hf hcap _ _ hT
  have HG := Lib.hid (check2 hn t An cn Ae ce a b w hf hcap hT)
  have HT := Lib.hid hT
  have HX : Hid (isS t a b = (decide (givenE t a b = 0) && bel t a b)) := Lib.hid rfl
  clear hT hn hf hcap
  generalize isS t a b = R at HX ⊢
  by_cases hg : givenE t a b = 0
  · have hG := giv_of hg
    have HBE := Lib.hid (fun u (hu : TyC u An Ae t) => isBelow_any t An cn hG.val.good a b u (by have := hG.a0; omega) hG.a1 hG.b0 hu.1)
    rw [hg] at HG
    have HX2 : Hid (R = bel t a b) := Lib.hid (by rw [HX.out, decide_eq_true hg, Bool.true_and])
    generalize bel t a b = z at *
    generalize hN : t.nodes.length = N at *
    generalize t.edges.length = M at *
    clear HX hG hg hN
    go_enter Try.func15, Try.ntmps15
    go_wp2_with fail
    with_reducible refine HG.out.mono ?_
    rintro e w1 ⟨rfl, hb1⟩
    obtain ⟨c0, c1⟩ := twoB_cell hb1
    have HB1 := Lib.hid (twoB_below hb1)
    clear hb1
    go_wp2_with fail
    refine (HBE.out _ (HT.out.up HB1.out)).mono ?_
    rintro e w2 ⟨rfl, rfl⟩
    go_wp2_with fail
    go_ret
    exact ⟨ret_bool HX2.out.symm, HB1.out⟩
  · have HX2 : Hid (R = false) := Lib.hid (by rw [HX.out, decide_eq_false hg, Bool.false_and])
    generalize givenE t a b = g at *
    have t3 : ((g : Int) == 0) = false := beq_eq_false_iff_ne.2 (by omega)
    generalize hN : t.nodes.length = N at *
    generalize t.edges.length = M at *
    clear HX hg hN
    go_enter Try.func15, Try.ntmps15
    go_wp2_with fail
    with_reducible refine HG.out.mono ?_
    rintro e w1 ⟨rfl, hb1⟩
    have HB1 := Lib.hid (twoB_below hb1)
    clear hb1
    go_wp2_with fail
    go_ret
    exact ⟨ret_bool HX2.out.symm, HB1.out⟩

set_option maxRecDepth 100000 in
set_option maxHeartbeats 2000000 in
theorem meetP_any (hn : NameC 60) : MeetC 27 := by
  intro t An cn Ae ce a b w hf hcap _ _ hT
  have HG := Lib.hid (check2 hn t An cn Ae ce a b w hf hcap hT)
  have HT := Lib.hid hT
  have HX : Hid (meetS t a b = if givenE t a b ≠ 0 then (0, givenE t a b) else if bel t a b then (a, 0) else if bel t b a then (b, 0) else (0, 13)) := Lib.hid rfl
  clear hT hn hf hcap
  generalize meetS t a b = R at HX ⊢
  by_cases hg : givenE t a b = 0
  · have hG := giv_of hg
    have HBE := Lib.hid (fun u (hu : TyC u An Ae t) => isBelow_any t An cn hG.val.good a b u (by have := hG.a0; omega) hG.a1 hG.b0 hu.1)
    have HBF := Lib.hid (fun u (hu : TyC u An Ae t) => isBelow_any t An cn hG.val.good b a u (by have := hG.b0; omega) hG.b1 hG.a0 hu.1)
    rw [hg] at HG
    have HX2 : Hid (R = if bel t a b then (a, 0) else if bel t b a then (b, 0) else (0, 13)) := Lib.hid (by rw [HX.out, if_neg (fun e => e hg)])
    generalize bel t a b = z at *
    generalize bel t b a = z' at *
    generalize hN : t.nodes.length = N at *
    generalize t.edges.length = M at *
    clear HX hG hg hN
    go_enter Try.func27, Try.ntmps27
    go_wp2_with fail
    with_reducible refine HG.out.mono ?_
    rintro e w1 ⟨rfl, hb1⟩
    obtain ⟨c0, c1⟩ := twoB_cell hb1
    have HB1 := Lib.hid (twoB_below hb1)
    clear hb1
    go_wp2_with fail
    refine (HBE.out _ (HT.out.up HB1.out)).mono ?_
    rintro e w2 ⟨rfl, rfl⟩
    cases z
    case true =>
      go_wp2_with fail
      go_ret2
      exact ⟨by (rw [HX2.out]; rfl), HB1.out⟩
    case false =>
      go_wp2_with fail
      refine (HBF.out _ (HT.out.up HB1.out)).mono ?_
      rintro e w2 ⟨rfl, rfl⟩
      cases z'
      all_goals
        go_wp2_with fail
        go_ret2
        exact ⟨by (rw [HX2.out]; rfl), HB1.out⟩
  · have HX2 : Hid (R = (0, givenE t a b)) := Lib.hid (by rw [HX.out, if_pos hg])
    generalize givenE t a b = g at *
    have t3 : ((g : Int) != 0) = true := by simp; omega
    generalize hN : t.nodes.length = N at *
    generalize t.edges.length = M at *
    clear HX hg hN
    go_enter Try.func27, Try.ntmps27
    go_wp2_with fail
    with_reducible refine HG.out.mono ?_
    rintro e w1 ⟨rfl, hb1⟩
    have HB1 := Lib.hid (twoB_below hb1)
    clear hb1
    go_wp2_with fail
    go_ret2
    exact ⟨by (rw [HX2.out]; rfl), HB1.out⟩

set_option maxRecDepth 100000 in
set_option maxHeartbeats 2000000 in
theorem ancP_any (hn : NameC 60) : AncC 17 := by
  intro t An cn Ae ce a w hf hcap _ hT
  have HG := Lib.hid (check1 hn t An cn Ae ce a w hf hcap hT)
  have HT := Lib.hid hT
  have HX : Hid (ancR t a = if givenE t a a = 0 then ancL t a (a.toNat + 1) else []) := Lib.hid rfl
  have hn20 := hf.nodes
  clear hT hn hf hcap
  generalize ancR t a = R at HX ⊢
  by_cases hg : givenE t a a = 0
  · have hG := giv_of hg
    have HAN := Lib.hid (fun u (hu : TyC u An Ae t) => ancestorsP_any t An t.nodes.length cn hG.val.good (Nat.le_refl _) hn20 a u.heap.size u (by have := hG.a0; omega) hG.a1 (Nat.le_refl _) hu.1)
    rw [hg] at HG ⊢
    have HX2 : Hid (chn t a = R) := Lib.hid (by rw [HX.out, if_pos hg, chn_anc hG.val.good a (by have := hG.a0; omega) hG.a1, show (a + 1).toNat = a.toNat + 1 by have := hG.a0; omega])
    generalize chn t a = L at *
    generalize hN : t.nodes.length = N at *
    generalize t.edges.length = M at *
    clear HX hG hg hN
    go_enter Try.func17, Try.ntmps17
    go_wp2_with fail
    with_reducible refine HG.out.mono ?_
    rintro e w1 ⟨rfl, hb1⟩
    obtain ⟨c0, c1⟩ := twoB_cell hb1
    have HB1 := Lib.hid (twoB_below hb1)
    clear hb1
    go_wp2_with fail
    refine (HAN.out _ (HT.out.up HB1.out)).mono ?_
    rintro e w2 ⟨⟨v, rfl, ho⟩, hb2⟩
    rw [HX2.out] at ho
    obtain ⟨A2, c2, rfl, hr⟩ := OwnE.reads ho
    have HR := Lib.hid hr
    have HB2 := Lib.hid (HB1.out.trans (hb2.mono HB1.out.size))
    clear ho hr hb2
    go_wp2_with fail
    go_ret2
    exact ⟨⟨A2, c2, rfl, HR.out⟩, HB2.out⟩
  · have HX2 : Hid (R = []) := Lib.hid (by rw [HX.out, if_neg hg])
    generalize givenE t a a = g at *
    have t3 : ((g : Int) != 0) = true := by simp; omega
    generalize hN : t.nodes.length = N at *
    generalize t.edges.length = M at *
    clear HX hg hN
    go_enter Try.func17, Try.ntmps17
    go_wp2_with fail
    with_reducible refine HG.out.mono ?_
    rintro e w1 ⟨rfl, hb1⟩
    have HB1 := Lib.hid (twoB_below hb1)
    clear hb1
    go_wp2_with fail
    go_ret2
    exact ⟨by rw [HX2.out]; exact ⟨none, 0, rfl, .inl rfl⟩, HB1.out⟩

set_option maxRecDepth 100000 in
set_option maxHeartbeats 2000000 in
theorem belP_any (hn : NameC 60) : BelC 19 := by
  intro t An cn Ae ce a w hf hcap _ hT
  have HG := Lib.hid (check1 hn t An cn Ae ce a w hf hcap hT)
  have HT := Lib.hid hT
  have HX : Hid (belR t a = if givenE t a a = 0 then belL t a (t.nodes.length) else []) := Lib.hid rfl
  have hn20 := hf.nodes
  clear hT hn hf hcap
  generalize belR t a = R at HX ⊢
  by_cases hg : givenE t a a = 0
  · have hG := giv_of hg
    have HST := Lib.hid (fun (i : Nat) => belL_succ t a i)
    have HLN := Lib.hid (fun (i : Nat) => belL_len t a i)
    have HZ : Hid (belL t a 0 = []) := Lib.hid rfl
    have HBE := Lib.hid (fun (i : Nat) (hi : i < t.nodes.length) u (hu : TyC u An Ae t) => isBelow_any t An cn hG.val.good (i : Int) a u (by omega) (by omega) hG.a0 hu.1)
    rw [hg] at HG ⊢
    have HX2 : Hid (R = belL t a t.nodes.length) := Lib.hid (by rw [HX.out, if_pos hg])
    generalize hN : t.nodes.length = N at *
    generalize t.edges.length = M at *
    clear HX hG hg hN
    go_enter Try.func19, Try.ntmps19
    go_wp2_with fail
    with_reducible refine HG.out.mono ?_
    rintro e w1 ⟨rfl, hb1⟩
    obtain ⟨c0, c1⟩ := twoB_cell hb1
    have HB1 := Lib.hid hb1
    clear hb1
    go_wp2_with fail
    clear c0 c1
    go_loopw [7, 19] (fun vo vi wr => ∃ i : Nat, i ≤ N ∧ vi = .int .i64 i ∧ OwnI wr (w.heap.size + 1 + 1) vo (belL t a i) ∧ Below (w.heap.size + 1 + 1) (TwoB w An N cn Ae M ce #[.int .i64 a]) wr) (fun _ vi _ => N - (intOf vi).toNat)
    case atStart => exact ⟨0, Nat.zero_le _, rfl, by rw [HZ.out]; exact OwnE.nil _ _ _, HB1.out⟩
    case round =>
      obtain ⟨i, hi, rfl, hown, hB⟩ := hrel
      obtain ⟨c0, c1⟩ := twoB_cell hB
      have hW := twoB_below hB
      have hsz := twoB_size hB
      by_cases hlt : i < N
      · have t1 : decide ((i : Int) < (N : Int)) = true := decide_eq_true (by omega)
        have HB := Lib.hid hB
        have HBI := Lib.hid (HBE.out i hlt wr (HT.out.up hW))
        have HSI := Lib.hid (HST.out i)
        have hln := HLN.out i
        generalize belL t a i = L at HSI hown hln
        generalize bel t (i : Int) a = z at HSI HBI
        have HO := Lib.hid hown
        clear hB hW hown
        cases z
        case false =>
          have HX3 : Hid (L = belL t a (i + 1)) := Lib.hid (by rw [HSI.out]; simp)
          clear HSI
          go_wp2_with fail
          refine HBI.out.mono ?_
          rintro e w2 ⟨rfl, rfl⟩
          go_wp2_with fail
          go_roundw
          case rel => exact ⟨i + 1, by omega, by go_num, HO.out.cast HX3.out, HB.out⟩
          case measure => simp [intOf]; omega
        case true =>
          have HX3 : Hid (L ++ [(i : Int)] = belL t a (i + 1)) := Lib.hid (by rw [HSI.out]; rfl)
          clear HSI
          go_wp2_with fail
          refine HBI.out.mono ?_
          rintro e w2 ⟨rfl, rfl⟩
          go_wp2_with (at_builtin; refine wpList_append_int (w := wr.alloc _) rfl _ _ rfl (w.heap.size + 1 + 1) _ L rfl ?y1 wr.heap.size 1 (i : Int) rfl ?y2 ?y3 ?y4 ?_)
          case y1 => exact HO.out.alloc _
          case y2 => simp
          case y3 => omega
          case y4 => simp; omega
          intro v3 w3 hown3 hg3 hb3
          have HO3 := Lib.hid (hown3.cast HX3.out)
          have HB3 := Lib.hid ((HB.out.alloc hsz _).trans hb3)
          clear hown3 hg3 hb3
          go_wp2_with fail
          go_roundw
          case rel => exact ⟨i + 1, by omega, by go_num, HO3.out, HB3.out⟩
          case measure => simp [intOf]; omega
      · have t1 : decide ((i : Int) < (N : Int)) = false := decide_eq_false (by omega)
        have e : i = N := by omega
        have HO := Lib.hid (hown.cast (show belL t a i = R by rw [e, HX2.out]))
        have HW := Lib.hid hW
        obtain ⟨A2, c2, rfl, hr⟩ := OwnE.reads HO.out
        have HR := Lib.hid hr
        clear hB hW hown e hr
        go_wp2_with fail
        go_ret2
        exact ⟨⟨A2, c2, rfl, HR.out⟩, HW.out⟩
  · have HX2 : Hid (R = []) := Lib.hid (by rw [HX.out, if_neg hg])
    generalize givenE t a a = g at *
    have t3 : ((g : Int) != 0) = true := by simp; omega
    generalize hN : t.nodes.length = N at *
    generalize t.edges.length = M at *
    clear HX hg hN
    go_enter Try.func19, Try.ntmps19
    go_wp2_with fail
    with_reducible refine HG.out.mono ?_
    rintro e w1 ⟨rfl, hb1⟩
    have HB1 := Lib.hid (twoB_below hb1)
    clear hb1
    go_wp2_with fail
    go_ret2
    exact ⟨by rw [HX2.out]; exact ⟨none, 0, rfl, .inl rfl⟩, HB1.out⟩

theorem edge_good {t : Typ} {k : Nat} (h : edgeE t k = 0) : 0 ≤ (t.edges.getD k default).fr ∧ 0 ≤ (t.edges.getD k default).to := by
  unfold edgeE edgeR at h
  by_cases h1 : isNm (t.edges.getD k default).nm = false
  · rw [if_pos h1] at h; cases h
  · rw [if_neg h1] at h
    by_cases h2 : (t.edges.take k).any (fun y => decide (y.nm = (t.edges.getD k default).nm)) = true
    · rw [if_pos h2] at h; cases h
    · rw [if_neg h2] at h
      by_cases h3 : (inB (t.edges.getD k default).fr 0 ((t.nodes.length : Int) - 1) && (inB (t.edges.getD k default).to 0 ((t.nodes.length : Int) - 1) && (boundS (t.edges.getD k default).ol (t.edges.getD k default).oh && boundS (t.edges.getD k default).il (t.edges.getD k default).ih))) = true
      · unfold inB at h3
        simp only [Bool.and_eq_true, decide_eq_true_eq] at h3
        exact ⟨h3.1.1, h3.2.1.1⟩
      · rw [if_neg h3] at h; cases h

set_option maxRecDepth 100000 in
set_option maxHeartbeats 2000000 in
theorem fitsP_any (hn : NameC 60) : FitC 25 := by
  intro t An cn Ae ce d a b w hf hcap _ _ _ hT
  have HG := Lib.hid (check2 hn t An cn Ae ce a b w hf hcap hT)
  have HT := Lib.hid hT
  have HX : Hid (fitsS t d a b = (decide (givenE t a b = 0) && (inB d 0 ((t.edges.length : Int) - 1) && (bel t a (t.edges.getD d.toNat default).fr && bel t b (t.edges.getD d.toNat default).to)))) := Lib.hid rfl
  clear hT hn hf hcap
  generalize fitsS t d a b = R at HX ⊢
  by_cases hg : givenE t a b = 0
  · have hG := giv_of hg
    have HIX := Lib.hid (fun u => isIndex_any d t.edges.length u)
    rw [hg] at HG
    have HX1 : Hid (R = (inB d 0 ((t.edges.length : Int) - 1) && (bel t a (t.edges.getD d.toNat default).fr && bel t b (t.edges.getD d.toNat default).to))) := Lib.hid (by rw [HX.out, decide_eq_true hg, Bool.true_and])
    clear HX
    by_cases hd : inB d 0 ((t.edges.length : Int) - 1) = true
    · have HX2 : Hid (R = (bel t a (t.edges.getD d.toNat default).fr && bel t b (t.edges.getD d.toNat default).to)) := Lib.hid (by rw [HX1.out, hd, Bool.true_and])
      rw [hd] at HIX
      have hd2 : 0 ≤ d ∧ d ≤ (t.edges.length : Int) - 1 := by
        unfold inB at hd
        simpa only [Bool.and_eq_true, decide_eq_true_eq] using hd
      obtain ⟨k, rfl⟩ : ∃ k : Nat, d = k := ⟨d.toNat, by omega⟩
      have hk : k < t.edges.length := by omega
      rw [Int.toNat_natCast, getD_at hk] at HX2
      have heg := edge_good (hG.val.edges k hk)
      rw [getD_at hk] at heg
      have HBE := Lib.hid (fun u (hu : TyC u An Ae t) => isBelow_any t An cn hG.val.good a t.edges[k].fr u (by have := hG.a0; omega) hG.a1 heg.1 hu.1)
      have HBF := Lib.hid (fun u (hu : TyC u An Ae t) => isBelow_any t An cn hG.val.good b t.edges[k].to u (by have := hG.b0; omega) hG.b1 heg.2 hu.1)
      have HEC : Hid (∀ u, TyC u An Ae t → _) := Lib.hid fun u (hu : TyC u An Ae t) => Edgs.cells hu.2 hk
      generalize bel t a t.edges[k].fr = z at *
      generalize bel t b t.edges[k].to = z' at *
      generalize t.edges[k] = x at *
      obtain ⟨nm, fr, to, ol, oh, il, ih⟩ := x
      dsimp only at *
      generalize hN : t.nodes.length = N at *
      generalize hM : t.edges.length = M at *
      have i0 : (0 : Int) ≤ (k : Int) := by omega
      have i1 : (k : Int) < (M : Int) := by omega
      have i2 : ((k : Int)).toNat = k := by omega
      clear HX1 hG hg hN hM hd hd2 heg
      go_enter Try.func25, Try.ntmps25
      go_wp2_with fail
      with_reducible refine HG.out.mono ?_
      rintro e w1 ⟨rfl, hb1⟩
      obtain ⟨c0, c1⟩ := twoB_cell hb1
      have HB1 := Lib.hid (twoB_below hb1)
      have hb1' := hb1
      clear hb1
      obtain ⟨b1, off, rfl, hbb, m0, m1, m2, m3, m4, m5, m6⟩ := HEC.out w1 (HT.out.up HB1.out)
      have hz := twoB_size hb1'
      have HBA := Lib.hid (hb1'.alloc hz (.cells #[.string nm, .int .i64 fr, .int .i64 to, .int .i64 ol, .int .i64 oh, .int .i64 il, .int .i64 ih] 60 (0, 0)))
      obtain ⟨q0, q1⟩ := twoB_cell HBA.out
      have hlt0 : w.heap.size < w1.heap.size := by omega
      clear hb1'
      go_wp2_with fail
      refine (HIX.out _).mono ?_
      rintro e w2 ⟨rfl, rfl⟩
      go_wp2_with fail
      refine (HBE.out _ (HT.out.up (twoB_below HBA.out))).mono ?_
      rintro e w2 ⟨rfl, hw2⟩
      subst hw2
      cases z
      case false =>
        go_wp2_with fail
        go_ret
        exact ⟨ret_bool (by rw [HX2.out]; rfl), twoB_below HBA.out⟩
      case true =>
        go_wp2_with fail
        refine (HBF.out _ (HT.out.up (twoB_below HBA.out))).mono ?_
        rintro e w2 ⟨rfl, hw2⟩
        subst hw2
        go_wp2_with fail
        go_ret
        exact ⟨ret_bool (by rw [HX2.out]; rfl), twoB_below HBA.out⟩
    · have hd' : inB d 0 ((t.edges.length : Int) - 1) = false := by simpa using hd
      have HX2 : Hid (R = false) := Lib.hid (by rw [HX1.out, hd', Bool.false_and])
      rw [hd'] at HIX
      generalize hN : t.nodes.length = N at *
      generalize t.edges.length = M at *
      clear HX1 hG hg hN hd hd'
      go_enter Try.func25, Try.ntmps25
      go_wp2_with fail
      with_reducible refine HG.out.mono ?_
      rintro e w1 ⟨rfl, hb1⟩
      obtain ⟨c0, c1⟩ := twoB_cell hb1
      have HB1 := Lib.hid (twoB_below hb1)
      clear hb1
      go_wp2_with fail
      refine (HIX.out _).mono ?_
      rintro e w2 ⟨rfl, rfl⟩
      go_wp2_with fail
      go_ret
      exact ⟨ret_bool HX2.out.symm, HB1.out⟩
  · have HX2 : Hid (R = false) := Lib.hid (by rw [HX.out, decide_eq_false hg, Bool.false_and])
    generalize givenE t a b = g at *
    have t3 : ((g : Int) != 0) = true := by simp; omega
    generalize hN : t.nodes.length = N at *
    generalize t.edges.length = M at *
    clear HX hg hN
    go_enter Try.func25, Try.ntmps25
    go_wp2_with fail
    with_reducible refine HG.out.mono ?_
    rintro e w1 ⟨rfl, hb1⟩
    have HB1 := Lib.hid (twoB_below hb1)
    clear hb1
    go_wp2_with fail
    go_ret
    exact ⟨ret_bool HX2.out.symm, HB1.out⟩

end Go.Proofs.Ytgpcaofikmdpjaa
