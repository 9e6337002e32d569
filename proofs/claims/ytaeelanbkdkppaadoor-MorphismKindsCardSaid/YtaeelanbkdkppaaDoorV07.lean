import Derived.Test.YtaeelanbkdkppaaDoorV04
import Derived.Test.YtaeelanbkdkppaaDoorV06
import Derived.Test.YtaeelanbkdkppaaDoorV05
import Derived.ArgAppend
/-
  nodeMaps: the solutions of the search, handed over one by one.
-/
namespace Go.Proofs.YtaeelanbkdkppaaDoor
open Go.RowKit Go.Shelf

set_option maxRecDepth 100000 in
set_option maxHeartbeats 4000000 in
theorem nodeMaps_visits (a b : Gr) (ha : validE a = 0) (hb : validE b = 0) (An : Option Addr) (cn : Nat) (Ae : Option Addr) (ce : Nat) (Bn : Option Addr) (dn : Nat) (Be : Option Addr) (de : Nat) (ab bb : Nat) (w : World) (h00 : 0 < w.heap.size) (hT : TabW w) (hTa : GrAt w An cn Ae ce a) (hTb : GrAt w Bn dn Be de b)
    (hab : w.heap[ab]? = some (.cells #[.slice An a.ns.length cn, .slice Ae a.es.length ce] 25 (0, 0))) (hbb : w.heap[bb]? = some (.cells #[.slice Bn b.ns.length dn, .slice Be b.es.length de] 25 (0, 0))) :
    Visits Tryd.prog 77 #[] #[.pointer (some ⟨ab, 0, none⟩), .pointer (some ⟨bb, 0, none⟩)] (solL a.ns.length (linksF b a.es) (firstC a b)) (RRow w.heap.size) (fun b => b = 0) w := by
  intro l J Jx H W hW hJ hJx hO hY h0
  have hH0 : ¬ H 0 := hO 0 rfl
  have la := (valid_zero ha).1
  have hls := links_ok ha hb
  have hll : (linksF b a.es).length ≤ 1000 := Nat.le_trans (linksF_len b a.es) (Nat.le_trans (valid_zero ha).2.1 (by omega))
  have hcs := first_small (a := a) hb
  have HZ := Lib.hid (fun i => first_zero a b (i := i))
  have HFC := Lib.hid (fun (u : World) (hu : Below w.heap.size w u) => firstChoices_any a b ha hb An cn Ae ce Bn dn Be de u (hTa.up hu) (hTb.up hu))
  have HNF := Lib.hid (fun (u : World) (hu : Below w.heap.size w u) => newFinder_any a b ha hb An cn Ae ce Bn dn Be de u (hTa.up hu) (hTb.up hu))
  generalize linksF b a.es = ls at *
  generalize firstC a b = c at *
  have hab1 := (hW.block ab (heap_lt hab)).trans hab
  have hbb1 := (hW.block bb (heap_lt hbb)).trans hbb
  have hlab := heap_lt hab
  have hlbb := heap_lt hbb
  have h001 : 0 < W.heap.size := Nat.lt_of_lt_of_le h00 hW.size
  have hTW : TabW W := hT.up (hW.block 0 h00)
  have HWW := Lib.hid hW
  have HLT := Lib.hid (fun b (hb : H b) => (hJ []).lt h0 hb)
  have HY := Lib.hid hY
  have HT := Lib.hid hTW
  have HJ0 := Lib.hid h0
  have HJ := Lib.hid hJ
  have HJX := Lib.hid hJx
  have HH0 := Lib.hid hH0
  obtain ⟨n, hn⟩ : ∃ n, n = a.ns.length := ⟨_, rfl⟩
  have hlW := hW.size
  clear hY hTW h0 hJ hJx hH0 hO hT hTa hTb ha hb
  obtain ⟨a1, a2⟩ := cell2 hab1
  obtain ⟨b1, b2⟩ := cell2 hbb1
  have HAB := Lib.hid hab1
  have HBB := Lib.hid hbb1
  clear hab1 hbb1 hab hbb hW
  rw [← hn] at la hls a1 HZ HAB ⊢
  have HN := Lib.hid hn
  rw [← hn] at HFC HNF HY
  clear hn
  have hlab1 : ab < W.heap.size := by omega
  have hlbb1 : bb < W.heap.size := by omega
  have hneA : ab ≠ W.heap.size := by omega
  have hneB : bb ≠ W.heap.size := by omega
  go_enter Tryd.func77, Tryd.ntmps77
  go_upto_region 1 with fail
  generalize hW0 : W.alloc _ = W0
  have hB0 : Below W.heap.size W W0 := by rw [← hW0]; exact (Below.refl _ _).alloc (Nat.le_refl _) _
  have y0 : Boxed W0 W.heap.size 72 (.func (.yield l) #[] #[]) := by rw [← hW0]; exact Boxed.new W _ _
  have hs0 : W0.heap.size = W.heap.size + 1 := by rw [← hW0]; simp
  clear hW0 a1 a2 b1 b2
  obtain ⟨a1, a2⟩ := cell2 (heap_up hB0 HAB.out)
  go_upto_region 2 with fail
  generalize hW1 : W0.alloc _ = W1
  have hB1 : Below W0.heap.size W0 W1 := by rw [← hW1]; exact (Below.refl _ _).alloc (Nat.le_refl _) _
  have y1 : Boxed W1 W.heap.size 72 (.func (.yield l) #[] #[]) := heap_up hB1 y0
  have n1 : Boxed W1 (W.heap.size + 1) 3 (.int .i64 (n : Int)) := by rw [← hW1, ← hs0]; exact Boxed.new W0 _ _
  have hs1 : W1.heap.size = W.heap.size + 2 := by rw [← hW1]; simp; omega
  have hBW : Below W.heap.size W W1 := hB0.trans (hB1.mono (by omega))
  clear hW1 a1 a2 y0 hB0 hB1 hs0
  have HY1 := Lib.hid y1
  have HN1 := Lib.hid n1
  have HBW := Lib.hid hBW
  have HS1 := Lib.hid hs1
  obtain ⟨a1, a2⟩ := cell2 (heap_up hBW HAB.out)
  obtain ⟨b1, b2⟩ := cell2 (heap_up hBW HBB.out)
  have HF1 := Lib.hid (HFC.out W1 (HWW.out.trans (hBW.mono (by omega))))
  clear hBW y1 n1
  go_upto_region 3 with (first | (simp only [ch_zero]) | (go_at_call 78; refine HF1.out.mono ?_; rintro e w2 ⟨rfl, hb2⟩) | (with_reducible refine wpList_store_chn rfl _ _ rfl w2.heap.size c (fun _ => 0) rfl rfl rfl ?_))
  have hs2 : W.heap.size + 2 ≤ w2.heap.size := by have := hb2.size; omega
  have cb2 : ChAt (w2.alloc (.cells (chA c) 108)) 108 w2.heap.size c := ChAt.new w2 _ c
  have hB2 : Below W1.heap.size W1 (w2.alloc (.cells (chA c) 108)) := hb2.trans (((Below.refl _ _).alloc (Nat.le_refl _) _).mono hb2.size)
  have hs3 : (w2.alloc (.cells (chA c) 108)).heap.size = w2.heap.size + 1 := by simp
  generalize w2.alloc (.cells (chA c) 108) = W2 at *
  obtain ⟨cb, hcb⟩ : ∃ cb, w2.heap.size = cb := ⟨_, rfl⟩
  rw [hcb] at hs2 cb2 hs3 ⊢
  have HY2 := Lib.hid (heap_up hB2 HY1.out)
  have HN2 : Hid (Boxed W2 (W.heap.size + 1) 3 (.int .i64 (n : Int))) := Lib.hid (heap_up hB2 HN1.out)
  have HBW2 := Lib.hid (HBW.out.trans (hB2.mono (by have := HS1.out; omega)))
  have HC2 := Lib.hid cb2
  have n2 := HN2.out.cell
  have hn0 : (0 : Int) ≤ (n : Int) := by omega
  have hn4 : (n : Int) ≤ 40 := by omega
  have hn5 : ((n : Int)).toNat = n := by omega
  have HCO := Lib.hid (contains_any c n 40 cb W2 la (fun i hi => cb2.cell (by omega)))
  clear HF1 a1 a2 b1 b2 hb2 hB2 hcb cb2 HY1 HN1 HBW HS1 hs1
  have q1 := (HC2.out.cell (i := 0) (by omega))
  go_upto_region 4 with (first | (go_at_call 79; refine HCO.out.mono ?_; rintro e w5 ⟨rfl, bz, rfl, hbz⟩))
  · have hnil : solL n ls c = [] := solL_nil hcs fun l2 hl2 => by
      obtain ⟨i, hi, h0⟩ := hbz.1 (by assumption)
      exact no_choice hi h0 l2 hl2
    refine bodyPost_ret (results_none rfl _ _ _) rfl ?_
    exact ⟨⟨_, rfl⟩, Keeps.of_below' _ HBW2.out, H, fun b h => .inl h, .inl (by rw [hnil]; exact (HJ.out []).below HJ0.out (fun _ h => h) HBW2.out)⟩
  · have hbz0 := hbz.2
    clear hbz q1 HCO n2
    have hsW2 : W.heap.size ≤ W2.heap.size := HBW2.out.size
    obtain ⟨a1, a2⟩ := cell2 (heap_up HBW2.out HAB.out)
    obtain ⟨b1, b2⟩ := cell2 (heap_up HBW2.out HBB.out)
    have HF2 := Lib.hid (HNF.out W2 (HWW.out.trans (HBW2.out.mono (by omega))))
    have c2 := HC2.out
    go_upto_region 5 with (go_at_call 80; refine HF2.out.mono ?_; rintro e w6 ⟨fb, g0, A, cap, rfl, hF6', hfb, hg6', hb6⟩)
    obtain ⟨g, hg0, hF6, hg6⟩ : ∃ g, g ≠ 0 ∧ FinAt w6 fb g A cap ls ∧ (0 < ls.length → W2.heap.size ≤ g) := by
      rcases Nat.eq_zero_or_pos ls.length with h | h
      · exact ⟨1, by omega, ⟨hF6'.box, hF6'.lt, fun i hi => by omega⟩, fun h2 => by omega⟩
      · exact ⟨g0, by have := hg6' h; omega, hF6', hg6'⟩
    clear hF6' hg6' a1 a2 b1 b2 HF2
    have hs6 := hb6.size
    have HC6 := Lib.hid (c2.up hb6)
    have HB6 : Hid (Below W.heap.size W w6) := Lib.hid (HBW2.out.trans (hb6.mono hsW2))
    have HY6 := Lib.hid (heap_up hb6 HY2.out)
    have HN6 : Hid (Boxed w6 (W.heap.size + 1) 3 (.int .i64 (n : Int))) := Lib.hid (heap_up hb6 HN2.out)
    have HEX := Lib.hid (examine_any n la ls hls hll c hcs fb g A cap hg0 w6 (by omega) (HT.out.up (HB6.out.block 0 h001)) hF6)
    have c6 := HC6.out
    clear c2
    go_upto_region 7 with (first | (simp only [ch_zero]) | (with_reducible refine wpList_load_ch rfl _ rfl cb c rfl HC6.out.range ?_) | (go_at_call 81; refine HEX.out.mono ?_; rintro e w7 ⟨d, bo, rfl, hk7, hF7, hsd, hto, hfo⟩) | (with_reducible refine wpList_store_chn rfl _ _ rfl w7.heap.size d (fun _ => 0) rfl rfl rfl ?_))
    · obtain ⟨hsol, hst, hsub, hnz⟩ := hto (by assumption)
      have hs7 := hk7.size
      have hB8 : Below w6.heap.size w7 (w7.alloc (.cells (chA d) 108)) := (Below.refl _ _).alloc hs7 _
      have d8 : ChAt (w7.alloc (.cells (chA d) 108)) 108 w7.heap.size d := ChAt.new w7 _ d
      have hF8 : FinAt (w7.alloc (.cells (chA d) 108)) fb g A cap ls := hF7.below ((Below.refl _ _).alloc (Nat.le_refl _) _)
      have hk8 : Keeps (fun i => i = g ∧ 0 < ls.length) w6 (w7.alloc (.cells (chA d) 108)) := hk7.trans (keeps_alloc _ _ _) fun _ _ h => h
      have hs8 : (w7.alloc (.cells (chA d) 108)).heap.size = w7.heap.size + 1 := by simp
      generalize w7.alloc (.cells (chA d) 108) = W8 at *
      have hbw8 : Below W.heap.size W W8 := HB6.out.trans (hk8.below (by omega) (fun i hi h => by have := hg6 h.2; have := h.1; omega))
      have hE8 : Env n ls fb g A cap W.heap.size (W.heap.size + 1) (.func (.yield l) #[] #[]) W8 := by
        refine ⟨by omega, HT.out.up (hbw8.block 0 h001), hF8, ?_, ?_⟩
        · exact (hk8.block _ (heap_lt HY6.out) (fun h => by have := hg6 h.2; have := h.1; omega)).trans HY6.out
        · exact (hk8.block _ HN6.out.lt (fun h => by have := hg6 h.2; have := h.1; have := hs3; omega)).trans HN6.out
      have hd0 : ∀ i, i < n → d i ≠ 0 := fun i hi => hnz i fun e => by
        have hb := hbz0 ⟨i, hi, e⟩
        simp_all
      have hdz : ∀ i, n ≤ i → d i = 0 := fun i hi => by
        have := hsub.le i
        rw [HZ.out i hi] at this
        omega
      have hse := solL_ext (n := n) (ls := ls) hcs hsd hsol
      have HWK := Lib.hid (walk_any n la ls hls hll fb g A cap hg0 W.heap.size (W.heap.size + 1) (.func (.yield l) #[] #[]) W.heap.size J Jx HJ.out HJX.out (fun h => by have := hg6 h; omega) (solL n ls c)
        (fun pre c2 H2 V hc2 h02 hx2 hj2 hE2 hB2 hA2 => yielder_any n la ls fb g A cap W.heap.size (W.heap.size + 1) l W.heap.size J Jx HJ.out (solL n ls c) (fun pre x H V G vs hj hx hr hg => HY.out pre x H V G vs hj hx (hr.mono hlW) hg) pre c2 H2 V hc2 h02 hx2 hj2 hE2 hB2 hA2)
        _ d (Nat.lt_succ_self _) hsd hst hd0 hdz [] H W8 (by rw [hse]; exact ⟨[], by simp⟩) ((HJ.out []).below HJ0.out (fun _ h => h) hbw8) hE8 hbw8.size
        ⟨HH0.out, fun h => by have := HLT.out _ h; omega, fun h => by have := HLT.out _ h; omega, fun h => by have := HLT.out _ h; omega, fun hp h => by have := HLT.out _ h; have := hg6 hp; omega⟩)
      have HSE := Lib.hid hse
      have HD8 := Lib.hid d8
      have HBW8 := Lib.hid hbw8
      have HG6 := Lib.hid hg6
      have HS8 := Lib.hid hs8
      clear hsol hst hsub hnz hs7 hB8 d8 hF8 hk8 hs8 hbw8 hE8 hd0 hdz hse hto hfo hk7 hF7 hsd hF6 c6
      go_wp2_with (first | (with_reducible refine wpList_load_ch rfl _ rfl w7.heap.size d rfl HD8.out.range ?_) | (go_at_call 82; refine HWK.out.mono ?_; rintro e w9 ⟨hk9, hF9, H', b9, rfl, hg9, hd9, hx9⟩))
      go_end0
      refine ⟨⟨_, rfl⟩, ?_, H', fun i hi => ?_, ?_⟩
      · have h1 : Keeps (fun b => H b ∨ isG ls g b) W w9 := (Keeps.of_below' _ HBW8.out).trans hk9 fun _ _ h => h
        exact h1.mono fun i hi h => h.elim id (fun h => by have := HG6.out h.2; have := h.1; omega)
      · exact (hg9 i hi).imp id (fun h => by have := HBW8.out.size; omega)
      · cases b9
        · exact .inr (hx9 rfl)
        · have := hd9 rfl
          rw [List.nil_append, ← HSE.out] at this
          exact .inl this
    · have hnil : solL n ls c = [] := solL_nil hcs (hfo (by assumption))
      have hs7 := hk7.size
      have hk8 : Keeps (fun i => i = g ∧ 0 < ls.length) w6 (w7.alloc (.cells (chA d) 108)) := hk7.trans (keeps_alloc _ _ _) fun _ _ h => h
      have hbw8 : Below W.heap.size W (w7.alloc (.cells (chA d) 108)) := HB6.out.trans (hk8.below (by omega) (fun i hi h => by have := hg6 h.2; have := h.1; omega))
      go_end0
      exact ⟨⟨_, rfl⟩, Keeps.of_below' _ hbw8, H, fun b h => .inl h, .inl (by rw [hnil]; exact (HJ.out []).below HJ0.out (fun _ h => h) hbw8)⟩

end Go.Proofs.YtaeelanbkdkppaaDoor

/-
  combine: all lists of images of the edges, handed over in their order; the lists so far share their backing arrays.
-/
namespace Go.Proofs.YtaeelanbkdkppaaDoor
open Go.RowKit Go.Shelf

attribute [local go_sem] Oper.semAt_some

/-- append of one int: the old slice reads as before -/
theorem run_append_both {w : World} (ty : TypeId) (base : Nat) (v : Value) (xs : List Int) (hown : OwnI w base v xs) (g c : Nat) (m : Int) (hc : w.cell? ⟨g, 0, none⟩ = some (.int .i64 m)) (hl : xs.length ≤ 1000000) (hbase : base ≤ w.heap.size) :
    ∃ v' w', (Builtin.append_ #[22, 22] ty #[v, .slice (some ⟨g, 0, none⟩) 1 c]).run Tryd.prog w = .ok v' w' ∧ OwnI w' base v' (xs ++ [m]) ∧ OwnI w' base v xs ∧ w.grownBy w' v.ownBlock ∧
      ((v'.ownBlock = v.ownBlock ∧ ∀ u : World, OwnI u base v' (xs ++ [m]) → OwnI u base v xs) ∨ ∃ h, v'.ownBlock = some h ∧ w.heap.size ≤ h) := by
  obtain ⟨i0, hi, hz0, hz1, hz2⟩ := info_parts infoInt
  have hnews : ∀ j u, (EInt.enc m)[j]? = some u → w.cell? ((⟨g, 0, none⟩ : Addr).add j) = some u := fun j u hj => by
    cases j with
    | zero => rw [addr_plain]; simp [EInt] at hj; subst hj; exact hc
    | succ j => simp [EInt] at hj
  have hcat : ∀ u b, u.ownsRow base 3 1 b (xs.length + 1) (cellsE EInt xs ++ EInt.enc m) → OwnI u base b (xs ++ [m]) := fun u b h => by
    unfold OwnI OwnE
    rw [cellsE_snoc, List.length_append]
    exact h
  have hb2 : (xs.length + 1) * 8 ≤ 140737488355328 := by omega
  rcases hown.2 with ⟨hv, h0⟩ | ⟨g0, cap, cur, hv, hbg, hg, hnc, hcm, hcs, htk⟩
  · have hx : xs = [] := List.length_eq_zero_iff.1 h0
    subst hv hx
    obtain ⟨v', w', h1, h2, h3, _⟩ := run_append_own (P := Tryd.prog) w w.heap.size 22 ty 3 i0 _ 1 8 Tryd.underlying22 hi hz0 hz1 hz2 rfl (by decide) (.slice none 0 0) 0 [] (World.ownsRow_nil w _ _ _) ⟨g, 0, none⟩ 1 c (EInt.enc m) rfl hnews (EInt.one m) (by unfold maxLen; omega) (by omega) (Nat.le_refl _)
    have h2' : OwnI w' w.heap.size v' [m] := h2
    obtain ⟨h, c', e, hh, _⟩ := OwnE.pos h2' (by simp)
    exact ⟨v', w', h1, OwnE.mono h2' hbase, OwnE.nil _ _ _, h3, .inr ⟨h, by rw [e]; rfl, hh⟩⟩
  · subst hv
    by_cases hr : xs.length + 1 ≤ cap
    · obtain ⟨w', h1, h2, h3⟩ := run_append_fits (P := Tryd.prog) w base 22 ty 3 i0 1 Tryd.underlying22 hi hz1 g0 xs.length cap (cellsE EInt xs) hown ⟨g, 0, none⟩ 1 c (EInt.enc m) rfl hnews (EInt.one m) hr
      have hback : ∀ u : World, OwnI u base (.slice (some ⟨g0, 0, none⟩) (xs.length + 1) cap) (xs ++ [m]) → OwnI u base (.slice (some ⟨g0, 0, none⟩) xs.length cap) xs := fun u hu => by
        unfold OwnI OwnE at hu ⊢
        rcases hu.2 with ⟨hv, _⟩ | ⟨g1, cap1, cur1, hv, hbg1, hg1, hnc1, hcm1, hcs1, htk1⟩
        · cases hv
        · injection hv with e1 e2 e3
          injection e1 with e1
          injection e1 with e1 _ _
          subst e1 e3
          refine ⟨hown.1, .inr ⟨g0, cap, cur1, rfl, hbg1, hg1, by omega, hcm1, hcs1, ?_⟩⟩
          have h4 := congrArg (List.take (xs.length * 1)) htk1
          have e4 : (cellsE EInt xs).length = xs.length * 1 := cellsE_length EInt xs
          rw [cellsE_snoc, List.take_take, List.take_append_of_le_length (by rw [e4]; exact Nat.le_refl _), ← e4, List.take_length] at h4
          have e5 : min (cellsE EInt xs).length ((xs ++ [m]).length * EInt.size) = (cellsE EInt xs).length := by rw [e4, List.length_append]; show min (xs.length * 1) ((xs.length + 1) * 1) = _; omega
          rw [e5] at h4
          show List.take (xs.length * 1) cur1.toList = _
          rw [← e4]
          exact h4
      have h5 := hcat _ _ h2
      exact ⟨_, w', h1, h5, hback _ h5, h3, .inl ⟨rfl, hback⟩⟩
    · have hlen : (cellsE EInt xs).length = xs.length * 1 := cellsE_length EInt xs
      obtain ⟨A', c', e', hR, _, _⟩ := OwnE.reads_cap hown
      have hcells : ∀ j u, (cellsE EInt xs)[j]? = some u → w.cell? ((⟨g0, 0, none⟩ : Addr).add j) = some u := fun j u hj => by
        have hjl := (List.getElem?_eq_some_iff.1 hj).1
        rw [addr_plain, Nat.zero_add, cell_of_row _ _ _ _ _ _ hg, ← Array.getElem?_toList]
        have : (cur.toList.take (xs.length * 1))[j]? = some u := by
          have h6 := htk
          show (cur.toList.take (xs.length * EInt.size))[j]? = some u
          rw [h6]; exact hj
        rw [List.getElem?_take_of_lt (by omega)] at this
        exact this
      obtain ⟨v', w', h1, h2, h3⟩ := run_append_arg_grows (P := Tryd.prog) w 22 ty 3 i0 _ 1 8 Tryd.underlying22 hi hz0 hz1 hz2 rfl (by decide) ⟨g0, 0, none⟩ xs.length cap (cellsE EInt xs) hlen hcells ⟨g, 0, none⟩ 1 c (EInt.enc m) rfl hnews (by omega) (by unfold maxLen; omega) hb2
      have h2' : OwnI w' w.heap.size v' (xs ++ [m]) := by
        unfold OwnI OwnE
        rw [cellsE_snoc, List.length_append]
        exact h2
      obtain ⟨h, c2, e, hh, _⟩ := OwnE.pos h2' (by simp)
      refine ⟨v', w', h1, OwnE.mono h2' hbase, OwnE.kept hown h3 (.inr (by simp [Value.ownBlock])), ⟨h3.os, h3.tape, h3.output, h3.size, fun k hk _ => h3.block k hk (by simp)⟩, .inr ⟨h, by rw [e]; rfl, hh⟩⟩
theorem wpListIn_append_both {F : Fence} {n : Nat} {w : World} {ops : Array Oper} {rest : List Oper} {o : Oper} {a : Act} {Q : Exit → Act → World → Prop} (hgd : o.guard = none) (s x : Operand)
    (ho : o.op = .call { callee := .builtin .append, args := #[s, x], argTypes := #[22, 22] }) (base : Nat) (v : Value) (xs : List Int) (hs : a.eval s = v) (hown : OwnI w base v xs) (g c : Nat) (m : Int) (hx : a.eval x = .slice (some ⟨g, 0, none⟩) 1 c)
    (hc : w.cell? ⟨g, 0, none⟩ = some (.int .i64 m)) (hl : xs.length ≤ 1000000) (hbase : base ≤ w.heap.size)
    (hK : ∀ v' w', OwnI w' base v' (xs ++ [m]) → OwnI w' base v xs → w.grownBy w' v.ownBlock → ((v'.ownBlock = v.ownBlock ∧ ∀ u : World, OwnI u base v' (xs ++ [m]) → OwnI u base v xs) ∨ ∃ h, v'.ownBlock = some h ∧ w.heap.size ≤ h) → wpListIn F n Tryd.prog ops Q rest (a.put o.dst v') w') :
    wpListIn F n Tryd.prog ops Q (o :: rest) a w := by
  refine wpListIn_plain hgd fun K hK' => ?_
  obtain ⟨v', w', hrun, r1, r2, r3, r4⟩ := run_append_both o.type base v xs hown g c m hc hl hbase
  unfold Oper.wpIn
  refine ⟨?_, ?_⟩
  · simp [Oper.about, ho, resolve, Target.leads, Sem.run_pure]
  · rw [Oper.semAt_plain F _ _ (by rw [ho]; intro c hc'; cases hc')]
    simp [execOp, ho, resolve, invoke, builtin, hs, hx, hrun, Result.andThen]
    exact hK' _ _ (hK v' w' r1 r2 r3 r4)

/-- a slice of rows, all of it in blocks of O -/
def RowsIn (O : Blks) (V : World) (A : Option Addr) (ls : List (List Int)) : Prop := ls = [] ∨ ∃ b, A = some ⟨b, 0, none⟩ ∧ O b ∧ b < V.heap.size ∧ ∀ i (h : i < ls.length), ∃ v, V.cell? ⟨b, i, none⟩ = some v ∧ InG O V v ls[i]
theorem RowsIn.up {O : Blks} {V V' : World} {A : Option Addr} {ls : List (List Int)} (h : RowsIn O V A ls) (hs : V.heap.size ≤ V'.heap.size) (hb : ∀ b, O b → b < V.heap.size → V'.heap[b]? = V.heap[b]?) : RowsIn O V' A ls := by
  refine h.imp id ?_
  rintro ⟨b, e, ho, hl, hc⟩
  refine ⟨b, e, ho, by omega, fun i hi => ?_⟩
  obtain ⟨v, h1, h2⟩ := hc i hi
  exact ⟨v, (cell_heap (p := ⟨b, i, none⟩) (hb b ho hl)).trans h1, h2.up hs hb⟩
/-- how a walk over the lists ends -/
def CEnd (B : Nat) (J : List (List Int) → Blks → World → Prop) (Jx : Blks → World → Prop) (H : Blks) (v : Value) (es : List Int) (V : World) (res : List (List Int)) (e : Ending) (V' : World) : Prop :=
  Keeps (fun b => H b ∨ v.ownBlock = some b) V V' ∧ OwnI V' B v es ∧ ∃ (H' : Blks) (bo : Bool), e = .returned (.bool bo) ∧ (∀ i, H' i → H i ∨ V.heap.size ≤ i) ∧ (bo = true → J res H' V') ∧ (bo = false → Jx H' V')
/-- what a walk relies on -/
structure CSit (B : Nat) (O : Blks) (A : Option Addr) (ls : List (List Int)) (H : Blks) (v : Value) (es : List Int) (V : World) : Prop where
  rows : RowsIn O V A ls
  own : OwnI V B v es
  base : B ≤ V.heap.size
  oh : ∀ b, O b → ¬ H b
  vh : ∀ b, v.ownBlock = some b → ¬ H b ∧ ¬ O b
  lt : ∀ b, H b → b < V.heap.size
  ol : ∀ b, O b → b < V.heap.size

/-- behind the clone: the round that takes it -/
theorem comb_mid {l B : Nat} {O H : Blks} {A : Option Addr} {ls : List (List Int)} {v u : Value} {es : List Int} {V w1 : World} {R : Blks → Ending → World → Prop} {J : Blks → World → Prop} (hS : CSit B O A ls H v es V) (hJ : Foot (fun b => b < B) J) (hj : J H V)
    (ho : OwnI w1 V.heap.size u es) (hb1 : Below V.heap.size V w1) (hY : ∀ G, J H w1 → InG G w1 u es → (∀ b, G b → ¬ H b ∧ b < w1.heap.size) → (∀ b, G b → V.heap.size ≤ b) → YieldAt Fence.wide 0 Tryd.prog l #[u] w1 (R G)) :
    YieldAt Fence.wide 5 Tryd.prog l #[u] w1 (R fun b => u.ownBlock = some b) := by
  have hg := OwnE.lt ho
  refine YieldAt.anyDepth rfl 5 (hY _ (hJ.below hj (fun b hb => Nat.lt_of_lt_of_le hb hS.base) hb1) (InG.own ho) (fun b h => ⟨fun h2 => ?_, (hg b h).2⟩) (fun b h => (hg b h).1))
  have := hS.lt b h2; have := (hg b h).1; omega

theorem OwnE.same {α : Type} {E : El α} {t : TypeId} {w w' : World} {base : Nat} {v : Value} {xs : List α} (h : OwnE E t w base v xs) (hb : ∀ g, v.ownBlock = some g → w'.heap[g]? = w.heap[g]?) : OwnE E t w' base v xs := by
  refine ⟨h.1, ?_⟩
  rcases h.2 with hn | ⟨g, cap, cur, hv, hbg, hg, rest⟩
  · exact .inl hn
  · exact .inr ⟨g, cap, cur, hv, hbg, by rw [hb g (by rw [hv]; rfl)]; exact hg, rest⟩
theorem comb_leaf_end {B : Nat} {O H H3 : Blks} {A : Option Addr} {ls : List (List Int)} {v u : Value} {es : List Int} {V w1 w3 : World} (hS : CSit B O A ls H v es V) (ho : OwnI w1 V.heap.size u es) (hb1 : Below V.heap.size V w1)
    (hk3 : Keeps (fun b => H b ∨ u.ownBlock = some b) w1 w3) (hg3 : ∀ b, H3 b → (H b ∨ u.ownBlock = some b) ∨ w1.heap.size ≤ b) : Keeps (fun b => H b ∨ v.ownBlock = some b) V w3 ∧ OwnI w3 B v es ∧ ∀ i, H3 i → H i ∨ V.heap.size ≤ i := by
  have hg := OwnE.lt ho
  have hs := hb1.size
  have hk : Keeps (fun b => H b ∨ u.ownBlock = some b) V w3 := (Keeps.of_below' _ hb1).trans hk3 fun _ _ h => h
  refine ⟨hk.mono fun i hi h => h.elim .inl (fun h => by have := (hg i h).1; omega), ?_, fun i hi => ?_⟩
  · refine OwnE.same hS.own fun g2 h2 => hk.block g2 (OwnE.lt hS.own g2 h2).2 fun h => ?_
    rcases h with h | h
    · exact (hS.vh g2 h2).1 h
    · have := (hg g2 h).1; have := (OwnE.lt hS.own g2 h2).2; omega
  · rcases hg3 i hi with (h | h) | h
    · exact .inl h
    · exact .inr (hg i h).1
    · exact .inr (by omega)

set_option maxRecDepth 100000 in
set_option maxHeartbeats 4000000 in
theorem combine_leaf (l B : Nat) (J : List (List Int) → Blks → World → Prop) (Jx : Blks → World → Prop) (hJ : ∀ pre, Foot (fun b => b < B) (J pre)) (xs : List (List Int)) (O : Blks)
    (hY : ∀ pre x H V G vs, J pre H V → pre ++ [x] <+: xs → RRow B x G V vs → (∀ b, G b → ¬ H b ∧ b < V.heap.size) → YieldAt Fence.wide 0 Tryd.prog l vs V (Turn (fun b => H b ∨ G b) V (J (pre ++ [x])) Jx))
    (ls : List (List Int)) (hll : ls.length ≤ 1000) (A : Option Addr) (cap : Nat) (es : List Int) (hes : es.length = ls.length) (pre : List (List Int)) (hx : pre ++ [es] <+: xs) (v : Value) (H : Blks) (V : World) (hj : J pre H V) (hS : CSit B O A ls H v es V) :
    Calls Tryd.prog 86 #[.slice A ls.length cap, v, .func (.yield l) #[] #[]] V (CEnd B J Jx H v es V (pre ++ [es])) := by
  obtain ⟨ao, c, rfl⟩ := OwnE.slice hS.own
  obtain ⟨ao', c', e', hR, _, _⟩ := OwnE.reads_cap hS.own
  injection e' with e1 _ e2
  subst e1 e2
  have HC := Lib.hid (cloneI_any es ao V.heap.size c V (by omega) hR)
  have HY := Lib.hid (hY pre es H)
  have HX := Lib.hid hx
  have HS := Lib.hid hS
  have HJ := Lib.hid (hJ pre)
  have HJ0 := Lib.hid hj
  clear hY hx hS hJ hj hR
  refine (callsIn_wide (n := 6)).1 ?_
  refine callsIn_of_wp_marks Tryd.func86 rfl trivial ?_ rfl
  simp only [Tryd.ntmps86, List.size_toArray, List.length_cons, List.length_nil, Nat.reduceAdd, Nat.reduceSub, Array.replicate_succ, Array.replicate_zero, List.push_toArray, List.append_toArray, List.nil_append, List.cons_append]
  have hee : ((es.length : Int) == (ls.length : Int)) = true := by simp [hes]
  have HES := Lib.hid hes
  clear hes
  gi_wp2_with (refine ⟨trivial, ?_⟩; gi_at_call 41; refine (callsIn_wide.2 HC.out).mono ?_; rintro e w1 ⟨u, rfl, ho, hb1⟩; obtain ⟨fn, tmps, assign, body, hy, hR⟩ := comb_mid (R := fun G => Turn (fun b => H b ∨ G b) w1 (J (pre ++ [es])) Jx) HS.out HJ.out HJ0.out ho hb1 (fun G hj hi hg h2 => HY.out w1 G #[u] hj HX.out ⟨u, rfl, hi, fun b h => Nat.le_trans HS.out.base (h2 b h)⟩ hg); have HO := Lib.hid ho; have HB1 := Lib.hid hb1; clear ho hb1)
  refine hR.mono ?_
  rintro e w3 ⟨hk3, H3, hg3, hd3⟩
  have HE := Lib.hid (comb_leaf_end HS.out HO.out HB1.out hk3 hg3)
  clear hk3 hg3
  rcases hd3 with ⟨rfl, hj3⟩ | ⟨rfl, hj3⟩
  · gi_wp2
    exact ⟨_, by simp [results, Tryd.results86, go_sem], HE.out.1, HE.out.2.1, H3, true, rfl, HE.out.2.2, fun _ => hj3, fun h => (by cases h)⟩
  · gi_wp2
    exact ⟨_, by simp [results, Tryd.results86, go_sem], HE.out.1, HE.out.2.1, H3, false, rfl, HE.out.2.2, fun h => (by cases h), fun _ => hj3⟩

/-- a walk's blocks, a round on -/
theorem comb_step {B : Nat} {O H H2 : Blks} {A : Option Addr} {ls : List (List Int)} {v v' : Value} {es : List Int} {x : Int} {V wr wa w2 : World} (hk : Keeps (fun b => H b ∨ v.ownBlock = some b) V wr) (hg : ∀ b, H2 b → H b ∨ V.heap.size ≤ b) (hS2 : CSit B O A ls H2 v es wr)
    (hb : Below wr.heap.size wr wa) (hgr : wa.grownBy w2 v.ownBlock) (hv' : (v'.ownBlock = v.ownBlock ∧ ∀ u : World, OwnI u B v' (es ++ [x]) → OwnI u B v es) ∨ ∃ h, v'.ownBlock = some h ∧ wa.heap.size ≤ h)
    (ho2 : OwnI w2 B v es) (ho2' : OwnI w2 B v' (es ++ [x])) :
    CSit B O A ls H2 v' (es ++ [x]) w2 ∧ ∀ (w3 : World) (H3 : Blks), Keeps (fun b => H2 b ∨ v'.ownBlock = some b) w2 w3 → OwnI w3 B v' (es ++ [x]) → (∀ i, H3 i → H2 i ∨ w2.heap.size ≤ i) → (∀ b, H3 b → b < w3.heap.size) →
      Keeps (fun b => H b ∨ v.ownBlock = some b) V w3 ∧ CSit B O A ls H3 v es w3 ∧ ∀ b, H3 b → H b ∨ V.heap.size ≤ b := by
  have s1 := hk.size
  have s2 := hb.size
  have s3 := hgr.size
  have hvw := OwnE.lt hS2.own
  have h02 : ∀ b, b < wr.heap.size → v.ownBlock ≠ some b → w2.heap[b]? = wr.heap[b]? := fun b h1 h2 => (hgr.block b (by omega) (fun e => h2 e.symm)).trans (hb.block b h1)
  have hn : CSit B O A ls H2 v' (es ++ [x]) w2 := by
    refine ⟨hS2.rows.up (by omega) (fun b h1 h2 => h02 b h2 (fun e => (hS2.vh b e).2 h1)), ho2', by have := hS2.base; omega, hS2.oh, fun b h => ?_, fun b h => by have := hS2.lt b h; omega, fun b h => by have := hS2.ol b h; omega⟩
    rcases hv' with ⟨e, _⟩ | ⟨h2, e, hl⟩
    · exact hS2.vh b (e ▸ h)
    · rw [e] at h
      injection h with h
      subst h
      exact ⟨fun h => by have := hS2.lt _ h; omega, fun h => by have := hS2.ol _ h; omega⟩
  refine ⟨hn, fun w3 H3 hk3 ho3 hg3 hl3 => ?_⟩
  have s4 := hk3.size
  have hvb : ∀ b, v.ownBlock = some b → b < wr.heap.size ∧ ¬ H2 b := fun b h => ⟨(hvw b h).2, (hS2.vh b h).1⟩
  refine ⟨?_, ⟨hn.rows.up s4 (fun b h1 h2 => hk3.block b h2 (fun h => h.elim (hS2.oh b h1) (fun h => (hn.vh b h).2 h1))), ?_, by have := hS2.base; omega, fun b h1 h2 => ?_, fun b h => ⟨fun h2 => ?_, (hS2.vh b h).2⟩, hl3, fun b h => by have := hS2.ol b h; omega⟩, fun b h => ?_⟩
  · have h1 : Keeps (fun b => (H b ∨ v.ownBlock = some b) ∨ V.heap.size ≤ b) V w2 := by
      refine ⟨hgr.os.trans (hb.os.trans hk.os), hgr.tape.trans (hb.tape.trans hk.tape), hgr.output.trans (hb.output.trans hk.output), by omega, fun b h1 h2 => ?_⟩
      exact (h02 b (by omega) (fun e => h2 (.inl (.inr e)))).trans (hk.block b h1 (fun h => h2 (.inl h)))
    have h2 := h1.trans hk3 fun i hi h => by
      rcases h with h | h
      · exact (hg i h).elim (fun h => .inl (.inl h)) .inr
      · rcases hv' with ⟨e, _⟩ | ⟨h3, e, hl⟩
        · exact .inl (.inr (e ▸ h))
        · rw [e] at h
          injection h with h
          exact .inr (by omega)
    exact h2.mono fun i hi h => h.elim id (fun h => by omega)
  · rcases hv' with ⟨_, e⟩ | ⟨h2, e, hl⟩
    · exact e w3 ho3
    · refine OwnE.same ho2 fun b hb2 => hk3.block b (by have := hvb b hb2; omega) (fun h => h.elim (hvb b hb2).2 (fun h => ?_))
      rw [e] at h
      injection h with h
      have := (hvb b hb2).1
      omega
  · rcases hg3 b h2 with h | h
    · exact hS2.oh b h1 h
    · have := hS2.ol b h1; omega
  · rcases hg3 b h2 with h3 | h3
    · exact (hvb b h).2 h3
    · have := (hvb b h).1; omega
  · rcases hg3 b h with h | h
    · exact hg b h
    · exact .inr (by omega)

theorem comb_j {B : Nat} {O H2 : Blks} {A : Option Addr} {ls : List (List Int)} {v : Value} {es : List Int} {wr wa w2 : World} {J : Blks → World → Prop} (hJ : Foot (fun b => b < B) J) (hj : J H2 wr) (hS2 : CSit B O A ls H2 v es wr)
    (hb : Below wr.heap.size wr wa) (hgr : wa.grownBy w2 v.ownBlock) : J H2 w2 := by
  have s2 := hb.size
  have s3 := hgr.size
  refine hJ.keep hj (by omega) fun b h => ?_
  have hlt : b < wr.heap.size := h.elim (hS2.lt b) (fun h => by have := hS2.base; omega)
  refine (hgr.block b (by omega) (fun e => ?_)).trans (hb.block b hlt)
  rcases h with h | h
  · exact (hS2.vh b e.symm).1 h
  · have := (OwnE.lt hS2.own b e.symm).1; omega

set_option maxRecDepth 100000 in
set_option maxHeartbeats 4000000 in
theorem combine_any (l B : Nat) (J : List (List Int) → Blks → World → Prop) (Jx : Blks → World → Prop) (hJ : ∀ pre, Foot (fun b => b < B) (J pre)) (hJx : Foot (fun b => b < B) Jx) (xs : List (List Int)) (O : Blks)
    (hY : ∀ pre x H V G vs, J pre H V → pre ++ [x] <+: xs → RRow B x G V vs → (∀ b, G b → ¬ H b ∧ b < V.heap.size) → YieldAt Fence.wide 0 Tryd.prog l vs V (Turn (fun b => H b ∨ G b) V (J (pre ++ [x])) Jx))
    (ls : List (List Int)) (hll : ls.length ≤ 1000) (hrl : ∀ q ∈ ls, q.length ≤ 1000) (A : Option Addr) (cap : Nat) :
    ∀ (r : List (List Int)) (es : List Int), es.length + r.length = ls.length → r = ls.drop es.length → ∀ (pre : List (List Int)) (v : Value) (H : Blks) (V : World), pre ++ comb r es <+: xs → J pre H V → CSit B O A ls H v es V →
      Calls Tryd.prog 86 #[.slice A ls.length cap, v, .func (.yield l) #[] #[]] V (CEnd B J Jx H v es V (pre ++ comb r es)) := by
  intro r
  induction r with
  | nil =>
    intro es hes _ pre v H V hx hj hS
    exact combine_leaf l B J Jx hJ xs O hY ls hll A cap es (by simpa using hes) pre hx v H V hj hS
  | cons q r ih =>
    intro es hes hdr pre v H V hx hj hS
    have hlt : es.length < ls.length := by simp at hes; omega
    have hcons := List.getElem_cons_drop hlt
    rw [← hdr] at hcons
    injection hcons with hq hr
    have hr := hr.symm
    have hql : q.length ≤ 1000 := hrl q (by rw [← hq]; exact List.getElem_mem _)
    obtain ⟨ao, c, hv⟩ := OwnE.slice hS.own
    obtain ⟨bb, rfl, hob, hbb, hrows⟩ : ∃ b, A = some ⟨b, 0, none⟩ ∧ O b ∧ b < V.heap.size ∧ ∀ i (h : i < ls.length), ∃ v, V.cell? ⟨b, i, none⟩ = some v ∧ InG O V v ls[i] := by
      rcases hS.rows with h | h
      · rw [h] at hlt; simp at hlt
      · exact h
    obtain ⟨qv, hqc, hqi⟩ := hrows es.length hlt
    rw [hq] at hqi
    obtain ⟨qA, qc, hqv, hqc1, hqc2, hqr⟩ := hqi
    subst hqv
    have hne : ((es.length : Int) == (ls.length : Int)) = false := by simp; omega
    have e0 : (0 : Int) ≤ (es.length : Int) := by omega
    have e1 : (es.length : Int) < (ls.length : Int) := by omega
    have e2 : ((es.length : Int)).toNat = es.length := by omega
    have hql' : (q.length : Int) ≤ 1000 := by omega
    have HES := Lib.hid hes
    have HIH := Lib.hid (fun x => ih (es ++ [x]) (by simp at hes ⊢; omega) (by rw [hr]; simp))
    have HX := Lib.hid hx
    have HS := Lib.hid hS
    have HJ0 := Lib.hid hj
    have HQR := Lib.hid hqr
    have HJ := Lib.hid hJ
    have HJX := Lib.hid hJx
    clear ih hx hj hqr hq hr hdr hes hrl hJ hJx hrows hY
    subst hv
    have HSL := Lib.hid hS
    clear hS
    generalize hel : es.length = n at *
    generalize hll2 : ls.length = N at *
    refine (callsIn_wide (n := 6)).1 ?_
    refine callsIn_of_wp_marks Tryd.func86 rfl trivial ?_ rfl
    simp only [Tryd.ntmps86, List.size_toArray, List.length_cons, List.length_nil, Nat.reduceAdd, Nat.reduceSub, Array.replicate_succ, Array.replicate_zero, List.push_toArray, List.append_toArray, List.nil_append, List.cons_append]
    have HEL := Lib.hid hel
    have HLL := Lib.hid hll2
    clear hel hll2
    gi_upto_region 4 with fail
    have hS0 := HSL.out
    have HV := Lib.hid (OwnE.lt hS0.own)
    clear hr hqc hne
    gi_loopw [24] (fun vi wr => ∃ (i : Nat) (H2 : Blks), i ≤ q.length ∧ vi = .int .i64 (i : Int) ∧ J (pre ++ (q.take i).flatMap fun x => comb r (es ++ [x])) H2 wr ∧ Keeps (fun b => H b ∨ (Value.slice ao n c).ownBlock = some b) V wr ∧ (∀ b, H2 b → H b ∨ V.heap.size ≤ b) ∧ CSit B O (some ⟨bb, 0, none⟩) ls H2 (.slice ao n c) es wr) (fun vi _ => q.length - (intOf vi).toNat)
    case atStart => exact ⟨0, H, Nat.zero_le _, rfl, by simpa using HJ0.out, Keeps.refl _ _, fun b h => .inl h, hS0⟩
    case round =>
      obtain ⟨i, H2, hi, rfl, hj, hk, hg, hS⟩ := hrel
      clear hS0
      by_cases hlt2 : i < q.length
      · obtain ⟨qb, qo, rfl, hqo, hqb, hqc⟩ : ∃ b off, qA = some ⟨b, off, none⟩ ∧ O b ∧ b < V.heap.size ∧ ∀ i, i < q.length → V.cell? ⟨b, off + i, none⟩ = some (.int .i64 (q.getD i 0)) := by
          rcases HQR.out with h | h
          · rw [h] at hlt2; simp at hlt2
          · exact h
        have ci : wr.cell? ⟨qb, qo + i, none⟩ = some (.int .i64 (q.getD i 0)) := (cell_heap (p := ⟨qb, qo + i, none⟩) (hk.block qb hqb (fun h => h.elim (HSL.out.oh qb hqo) (fun h => (HSL.out.vh qb h).2 hqo)))).trans (hqc i hlt2)
        have hsn : (q.take (i + 1)).flatMap (fun x => comb r (es ++ [x])) = (q.take i).flatMap (fun x => comb r (es ++ [x])) ++ comb r (es ++ [q.getD i 0]) := by
          have e : q.getD i 0 = q[i] := by rw [List.getD_eq_getElem?_getD, List.getElem?_eq_getElem hlt2]; rfl
          rw [e, List.take_add_one, List.getElem?_eq_getElem hlt2, List.flatMap_append]
          simp
        have HSN := Lib.hid hsn
        have HMEM : Hid ((pre ++ (q.take i).flatMap fun x => comb r (es ++ [x])) ++ comb r (es ++ [q.getD i 0]) <+: xs) := Lib.hid (by
          rw [List.append_assoc, ← hsn]
          refine (List.prefix_append_right_inj pre |>.2 ?_).trans HX.out
          have e : comb (q :: r) es = (q.take (i + 1) ++ q.drop (i + 1)).flatMap fun x => comb r (es ++ [x]) := by rw [List.take_append_drop]; rfl
          rw [e, List.flatMap_append]
          exact ⟨_, rfl⟩)
        have i0 : (0 : Int) ≤ (i : Int) := by omega
        have i1 : (i : Int) < (q.length : Int) := by omega
        have i2 : ((i : Int)).toNat = i := by omega
        have i3 : (i : Int) < 1000 := by omega
        have HLT2 := Lib.hid hlt2
        have HM : Hid (q.length - ((i : Int) + 1).toNat < q.length - ((i : Int)).toNat) := Lib.hid (by omega)
        have HK := Lib.hid hk
        have HG := Lib.hid hg
        have HSW := Lib.hid hS
        have HJW := Lib.hid hj
        clear hqc hsn hk hg hS hj hlt2
        generalize q.getD i 0 = x at *
        have hba : Below wr.heap.size wr (wr.alloc (.cells #[.int .i64 x] 3)) := (Below.refl _ _).alloc (Nat.le_refl _) _
        have hsa : (wr.alloc (.cells #[.int .i64 x] 3)).heap.size = wr.heap.size + 1 := by simp
        have HOA := Lib.hid (OwnE.alloc HSW.out.own (.cells #[.int .i64 x] 3))
        have HCA : Hid ((wr.alloc (.cells #[.int .i64 x] 3)).cell? ⟨wr.heap.size, 0, none⟩ = some (.int .i64 x)) := Lib.hid (cell_new _ _ _)
        have HBA := Lib.hid hba
        have HSA := Lib.hid hsa
        clear hba hsa
        gi_wp2_with (first | (with_reducible refine wpListIn_append_both rfl _ _ rfl B (.slice ao n c) es rfl HOA.out wr.heap.size 1 x rfl HCA.out (by have := HEL.out; omega) (by have := HSW.out.base; have := HSA.out; omega) ?_) | (intro v' w2 r1 r2 r3 r4; obtain ⟨hs2, hnx⟩ := comb_step HK.out HG.out HSW.out HBA.out r3 r4 r2 r1; have HW := Lib.hid (HIH.out x (pre ++ (q.take i).flatMap fun x => comb r (es ++ [x])) v' H2 w2 HMEM.out (comb_j (HJ.out _) HJW.out HSW.out HBA.out r3) hs2); have HNX := Lib.hid hnx; clear r1 r2 r3 r4 hs2 hnx) | (refine ⟨trivial, ?_⟩; gi_at_call 86; refine (callsIn_wide.2 HW.out).mono ?_; rintro e w3 ⟨hk3, ho3, H3, bo, rfl, hg3, hj3, hx3⟩; cases bo))
        · obtain ⟨f1, f2, f3⟩ := HNX.out w3 H3 hk3 ho3 hg3 (fun b h => HJX.out.lt (hx3 (by trivial)) h)
          refine ⟨_, by simp [results, Tryd.results86, go_sem], f1, f2.own, H3, false, rfl, f3, fun h => (by cases h), fun _ => hx3 (by trivial)⟩
        · have hj4 := hj3 (by trivial)
          rw [List.append_assoc, ← HSN.out] at hj4
          obtain ⟨f1, f2, f3⟩ := HNX.out w3 H3 hk3 ho3 hg3 (fun b h => (HJ.out _).lt hj4 h)
          have HF1 := Lib.hid f1
          have HF2 := Lib.hid f2
          have HF3 := Lib.hid f3
          have HJ4 := Lib.hid hj4
          clear hk3 ho3 hg3 hj3 hx3 f1 f2 f3 hj4
          gi_wp2
          go_roundw
          case rel => exact ⟨i + 1, H3, HLT2.out, by go_num, HJ4.out, HF1.out, HF3.out, HF2.out⟩
          case measure => exact HM.out
      · obtain rfl : i = q.length := by omega
        rw [List.take_length] at hj
        have HJW : Hid (J (pre ++ comb (q :: r) es) H2 wr) := Lib.hid hj
        have HK := Lib.hid hk
        have HG := Lib.hid hg
        have HSW := Lib.hid hS
        clear hj hk hg hS hlt2 hi
        gi_wp2
        exact ⟨_, by simp [results, Tryd.results86, go_sem], HK.out, HSW.out.own, H2, true, rfl, HG.out, fun _ => HJW.out, fun h => (by cases h)⟩

end Go.Proofs.YtaeelanbkdkppaaDoor

/-
  edgeMaps: the lists of images that edges can have, for given images of the nodes.
-/
namespace Go.Proofs.YtaeelanbkdkppaaDoor
open Go.RowKit Go.Shelf

set_option maxRecDepth 100000 in
set_option maxHeartbeats 2000000 in
theorem edgeMaps_visits (ls : List (List Int)) (hll : ls.length ≤ 1000) (hrl : ∀ q ∈ ls, q.length ≤ 1000) (im cap : Nat) (A : Option Addr) (O : Blks) (w : World) (him : Boxed w im 118 (.slice A ls.length cap)) (hO : ∀ b, O b → b < w.heap.size) (hR : RowsIn O w A ls) :
    Visits Tryd.prog 85 #[] #[.pointer (some ⟨im, 0, none⟩)] (comb ls []) (RRow w.heap.size) O w := by
  intro l J Jx H W hW hJ hJx hOH hY h0
  have hs := hW.size
  have c1 : W.cell? ⟨im, 0, none⟩ = some (.slice A ls.length cap) := cell_of_row _ _ _ _ _ _ (heap_up hW him)
  have HC := Lib.hid (combine_any l W.heap.size J Jx hJ hJx (comb ls []) O (fun pre x H V G vs hj hx hr hg => hY pre x H V G vs hj hx (hr.mono hs) hg) ls hll hrl A cap ls [] (by simp) (by simp) [] (.slice none 0 0) H W (List.prefix_refl _) h0
    ⟨hR.up hs (fun b _ h => hW.block b h), OwnE.nil _ _ _, Nat.le_refl _, hOH, fun b h => (by cases h), fun b h => (hJ []).lt h0 h, fun b h => by have := hO b h; omega⟩)
  clear hY h0 hJ hJx hOH hR
  go_enter Tryd.func85, Tryd.ntmps85
  go_wp2_with (go_at_call 86; refine HC.out.mono ?_; rintro e w1 ⟨hk, _, H', bo, rfl, hg, h1, h2⟩)
  go_end0
  refine ⟨⟨_, rfl⟩, hk.mono fun i _ h => h.elim id (fun h => by cases h), H', hg, ?_⟩
  cases bo
  · exact .inr (h2 rfl)
  · exact .inl (by simpa using h1 rfl)

/-- three stores into a structure of three cells -/
theorem set3R {W : World} {g : Nat} {a b c x y z : Value} {t : TypeId} (h : W.heap[g]? = some (.cells #[a, b, c] t (0, 0))) :
    (((W.setCell ⟨g, 0, none⟩ x).setCell ⟨g, 1, none⟩ y).setCell ⟨g, 2, none⟩ z).heap[g]? = some (.cells #[x, y, z] t (0, 0)) := by
  have h1 := heap_setCell_same W g 0 _ _ x h
  have h2 := heap_setCell_same _ g 1 _ _ y h1
  exact heap_setCell_same _ g 2 _ _ z h2
theorem set3_other {W : World} {g k : Nat} (x y z : Value) (h : k ≠ g) : (((W.setCell ⟨g, 0, none⟩ x).setCell ⟨g, 1, none⟩ y).setCell ⟨g, 2, none⟩ z).heap[k]? = W.heap[k]? :=
  (heap_setCell_other _ _ _ _ h).trans ((heap_setCell_other _ _ _ _ h).trans (heap_setCell_other _ _ _ _ h))

set_option maxHeartbeats 2000000 in
theorem moveEnds_any (x : Ed) (l : List Int) (Nn : Option Addr) (cn : Nat) (w : World) (B : Nat) (hN : Ints w B Nn l) (h1 : 0 ≤ x.fr ∧ x.fr < l.length) (h2 : 0 ≤ x.tq ∧ x.tq < l.length) :
    Calls Tryd.prog 40 #[.agg #[.int .i64 x.ty, .int .i64 x.fr, .int .i64 x.tq], .slice Nn l.length cn] w fun e w' => e = .returned (.agg #[.int .i64 x.ty, .int .i64 (l.getD x.fr.toNat 0), .int .i64 (l.getD x.tq.toNat 0)]) ∧ Below w.heap.size w w' := by
  obtain ⟨ty, fr, tt⟩ := x
  dsimp only at h1 h2
  obtain ⟨f, rfl⟩ : ∃ f : Nat, fr = (f : Int) := ⟨fr.toNat, by omega⟩
  obtain ⟨t, rfl⟩ : ∃ t : Nat, tt = (t : Int) := ⟨tt.toNat, by omega⟩
  obtain ⟨b, off, rfl, hb, hc⟩ := Ints.cells hN (k := f) (by omega)
  have cf := hc f (by omega)
  have ct := hc t (by omega)
  have f0 : (0 : Int) ≤ (f : Int) := by omega
  have f1 : (f : Int) < (l.length : Int) := by omega
  have f2 : ((f : Int)).toNat = f := by omega
  have t0 : (0 : Int) ≤ (t : Int) := by omega
  have t1 : (t : Int) < (l.length : Int) := by omega
  have t2 : ((t : Int)).toNat = t := by omega
  have hbl : b < w.heap.size := World.block_lt_of_cell? w _ cf
  dsimp only
  rw [f2, t2]
  generalize l.getD f 0 = x at *
  generalize l.getD t 0 = y at *
  clear hc hN
  go_enter Tryd.func40, Tryd.ntmps40
  go_upto_region 1 with fail
  generalize hW1 : (w.alloc _).alloc _ = W1
  have hB : Below w.heap.size w W1 := by rw [← hW1]; exact ((Below.refl _ _).alloc (Nat.le_refl _) _).alloc (by simp) _
  have he : W1.heap[w.heap.size]? = some (.cells #[.int .i64 ty, .int .i64 (f : Int), .int .i64 (t : Int)] 65 (0, 0)) := by rw [← hW1]; exact heap_two _ _ _
  have hr : W1.heap[w.heap.size + 1]? = some (.cells #[.int .i64 0, .int .i64 0, .int .i64 0] 65 (0, 0)) := by rw [← hW1]; exact heap_two' _ _ _
  have cf1 : W1.cell? ⟨b, off + f, none⟩ = some (.int .i64 x) := (hB.cell (p := ⟨b, off + f, none⟩) hbl).trans cf
  have ct1 : W1.cell? ⟨b, off + t, none⟩ = some (.int .i64 y) := (hB.cell (p := ⟨b, off + t, none⟩) hbl).trans ct
  clear hW1 cf ct
  obtain ⟨e0, e1, e2⟩ := cell3 he
  obtain ⟨r0, r1, r2⟩ := cell3 hr
  have rf : ∀ j, W1.frozen? ⟨w.heap.size + 1, j, none⟩ = false := fun j => frozen_of_row _ _ _ _ _ hr
  have rf0 := rf 0
  have rf1 := rf 1
  have rf2 := rf 2
  have HS : Hid ((fun u : World => u.cell? ⟨w.heap.size, 0, none⟩ = some (.int .i64 ty) ∧ u.cell? ⟨w.heap.size, 1, none⟩ = some (.int .i64 (f : Int)) ∧ u.cell? ⟨w.heap.size, 2, none⟩ = some (.int .i64 (t : Int)) ∧ u.cell? ⟨b, off + f, none⟩ = some (.int .i64 x) ∧ u.cell? ⟨b, off + t, none⟩ = some (.int .i64 y)) W1.drew) := Lib.hid ⟨e0, e1, e2, cf1, ct1⟩
  have HB := Lib.hid hB
  have n1 : b ≠ w.heap.size + 1 := by omega
  have hlr := heap_lt hr
  have hW2 : ∃ W2 : World, W2 = (((W1.setCell ⟨w.heap.size + 1, 0, none⟩ (.int .i64 ty)).setCell ⟨w.heap.size + 1, 1, none⟩ (.int .i64 x)).setCell ⟨w.heap.size + 1, 2, none⟩ (.int .i64 y)).drew := ⟨_, rfl⟩
  obtain ⟨W2, hW2⟩ := hW2
  have k2 : ∀ k, k ≠ w.heap.size + 1 → W2.heap[k]? = W1.heap[k]? := fun k hk => by rw [hW2]; exact set3_other _ _ _ hk
  have HR2 : Hid (W2.heap[w.heap.size + 1]? = some (.cells #[.int .i64 ty, .int .i64 x, .int .i64 y] 65 (0, 0))) := Lib.hid (by rw [hW2]; exact set3R hr)
  have HS2 : Hid ((fun u : World => u.cell? ⟨w.heap.size, 0, none⟩ = some (.int .i64 ty) ∧ u.cell? ⟨w.heap.size, 1, none⟩ = some (.int .i64 (f : Int)) ∧ u.cell? ⟨w.heap.size, 2, none⟩ = some (.int .i64 (t : Int)) ∧ u.cell? ⟨b, off + f, none⟩ = some (.int .i64 x) ∧ u.cell? ⟨b, off + t, none⟩ = some (.int .i64 y)) W2) := by
    have g0 := cell3 ((k2 _ (by omega)).trans he)
    exact Lib.hid ⟨g0.1, g0.2.1, g0.2.2, (cell_heap (p := ⟨b, off + f, none⟩) (k2 b n1)).trans cf1, (cell_heap (p := ⟨b, off + t, none⟩) (k2 b n1)).trans ct1⟩
  have HB2 : Hid (Below w.heap.size w W2) := Lib.hid (by
    rw [hW2]
    exact (((HB.out.setCell (p := ⟨w.heap.size + 1, 0, none⟩) (show w.heap.size ≤ w.heap.size + 1 by omega) _).setCell (p := ⟨w.heap.size + 1, 1, none⟩) (show w.heap.size ≤ w.heap.size + 1 by omega) _).setCell (p := ⟨w.heap.size + 1, 2, none⟩) (show w.heap.size ≤ w.heap.size + 1 by omega) _).drew)
  have HW2 := Lib.hid hW2
  clear he rf e0 e1 e2 cf1 ct1 hB hr k2 hW2
  refine wp_region_noPanic ?_
  refine wp_region_held_drew (S := (fun u : World => u.cell? ⟨w.heap.size, 0, none⟩ = some (.int .i64 ty) ∧ u.cell? ⟨w.heap.size, 1, none⟩ = some (.int .i64 (f : Int)) ∧ u.cell? ⟨w.heap.size, 2, none⟩ = some (.int .i64 (t : Int)) ∧ u.cell? ⟨b, off + f, none⟩ = some (.int .i64 x) ∧ u.cell? ⟨b, off + t, none⟩ = some (.int .i64 y))) (by kernel_rfl) (HS.out) (fun hHeld => ?_)
  refine wpAnyH_take (i := 0) (v := ?_) (oper_at (r := _) rfl) (by kernel_rfl) (by kernel_rfl) (by kernel_rfl) (fun _ _ _ h => h) (Or.inl ⟨by rfl, ?_⟩) (by assumption) ?_
  rotate_left
  · intro w hSw; try dsimp only at hSw
    go_simp
    try with_reducible rfl
  try simp only [Act.put, List.setIfInBounds_toArray, List.set_cons_zero, List.set_cons_succ]
  refine wpAnyH_take (i := 1) (v := ?_) (oper_at (r := _) rfl) (by kernel_rfl) (by kernel_rfl) (by kernel_rfl) (fun _ _ _ h => h) (Or.inl ⟨by rfl, ?_⟩) (by assumption) ?_
  rotate_left
  · intro w hSw; try dsimp only at hSw
    go_simp
    try with_reducible rfl
  try simp only [Act.put, List.setIfInBounds_toArray, List.set_cons_zero, List.set_cons_succ]
  refine wpAnyH_take (i := 2) (v := ?_) (oper_at (r := _) rfl) (by kernel_rfl) (by kernel_rfl) (by kernel_rfl) (fun _ _ _ h => h) (Or.inl ⟨by rfl, ?_⟩) (by assumption) ?_
  rotate_left
  · intro w hSw; try dsimp only at hSw
    go_simp
    try with_reducible rfl
  try simp only [Act.put, List.setIfInBounds_toArray, List.set_cons_zero, List.set_cons_succ]
  refine wpAnyH_take (i := 3) (v := ?_) (oper_at (r := _) rfl) (by kernel_rfl) (by kernel_rfl) (by kernel_rfl) (fun _ _ _ h => h) (Or.inl ⟨by rfl, ?_⟩) (by assumption) ?_
  rotate_left
  · intro w hSw; try dsimp only at hSw
    go_simp
    try with_reducible rfl
  try simp only [Act.put, List.setIfInBounds_toArray, List.set_cons_zero, List.set_cons_succ]
  refine wpAnyH_take (i := 4) (v := ?_) (oper_at (r := _) rfl) (by kernel_rfl) (by kernel_rfl) (by kernel_rfl) (fun _ _ _ h => h) (Or.inl ⟨by rfl, ?_⟩) (by assumption) ?_
  rotate_left
  · intro w hSw; try dsimp only at hSw
    go_simp
    try with_reducible rfl
  try simp only [Act.put, List.setIfInBounds_toArray, List.set_cons_zero, List.set_cons_succ]
  refine wpAnyH_take (i := 5) (v := ?_) (oper_at (r := _) rfl) (by kernel_rfl) (by kernel_rfl) (by kernel_rfl) (fun _ _ _ h => h) (Or.inl ⟨by rfl, ?_⟩) (by assumption) ?_
  rotate_left
  · intro w hSw; try dsimp only at hSw
    go_simp
    try with_reducible rfl
  try simp only [Act.put, List.setIfInBounds_toArray, List.set_cons_zero, List.set_cons_succ]
  refine wpAnyH_take (i := 6) (v := ?_) (oper_at (r := _) rfl) (by kernel_rfl) (by kernel_rfl) (by kernel_rfl) (fun _ _ _ h => h) (Or.inl ⟨by rfl, ?_⟩) (by assumption) ?_
  rotate_left
  · intro w hSw; try dsimp only at hSw
    go_simp
    try with_reducible rfl
  try simp only [Act.put, List.setIfInBounds_toArray, List.set_cons_zero, List.set_cons_succ]
  refine wpAnyH_take (i := 7) (v := ?_) (oper_at (r := _) rfl) (by kernel_rfl) (by kernel_rfl) (by kernel_rfl) (fun _ _ _ h => h) (Or.inl ⟨by rfl, ?_⟩) (by assumption) ?_
  rotate_left
  · intro w hSw; try dsimp only at hSw
    go_simp
    try with_reducible rfl
  try simp only [Act.put, List.setIfInBounds_toArray, List.set_cons_zero, List.set_cons_succ]
  refine wpAnyH_take (i := 8) (v := ?_) (oper_at (r := _) rfl) (by kernel_rfl) (by kernel_rfl) (by kernel_rfl) (fun _ _ _ h => h) (Or.inl ⟨by rfl, ?_⟩) (by assumption) ?_
  rotate_left
  · intro w hSw; try dsimp only at hSw
    go_simp
    try with_reducible rfl
  try simp only [Act.put, List.setIfInBounds_toArray, List.set_cons_zero, List.set_cons_succ]
  refine wpAnyH_take (i := 9) (v := ?_) (oper_at (r := _) rfl) (by kernel_rfl) (by kernel_rfl) (by kernel_rfl) (fun _ _ _ h => h) (Or.inl ⟨by rfl, ?_⟩) (by assumption) ?_
  rotate_left
  · intro w hSw; try dsimp only at hSw
    go_simp
    try with_reducible rfl
  try simp only [Act.put, List.setIfInBounds_toArray, List.set_cons_zero, List.set_cons_succ]
  refine wpAnyH_take (i := 10) (v := ?_) (oper_at (r := _) rfl) (by kernel_rfl) (by kernel_rfl) (by kernel_rfl) (fun _ _ _ h => h) (Or.inl ⟨by rfl, ?_⟩) (by assumption) ?_
  rotate_left
  · intro w hSw; try dsimp only at hSw
    go_simp
    try with_reducible rfl
  try simp only [Act.put, List.setIfInBounds_toArray, List.set_cons_zero, List.set_cons_succ]
  refine wpAnyH_take (i := 11) (v := ?_) (oper_at (r := _) rfl) (by kernel_rfl) (by kernel_rfl) (by kernel_rfl) (fun _ _ _ h => h) (Or.inl ⟨by rfl, ?_⟩) (by assumption) ?_
  rotate_left
  · intro w hSw; try dsimp only at hSw
    go_simp
    try with_reducible rfl
  try simp only [Act.put, List.setIfInBounds_toArray, List.set_cons_zero, List.set_cons_succ]
  refine wpAnyH_take (i := 12) (v := ?_) (oper_at (r := _) rfl) (by kernel_rfl) (by kernel_rfl) (by kernel_rfl) (fun _ _ _ h => h) (Or.inl ⟨by rfl, ?_⟩) (by assumption) ?_
  rotate_left
  · intro w hSw; try dsimp only at hSw
    go_simp
    try with_reducible rfl
  try simp only [Act.put, List.setIfInBounds_toArray, List.set_cons_zero, List.set_cons_succ]
  refine wpAnyH_ready (rs := [13]) (by kernel_rfl) (by simp) ?_
  refine AllReadyH.cons (oper_at (r := _) rfl) (fun K hK => ?_) AllReadyH.nil
  go_simp
  rw [← HW2.out]
  refine hK.out _ _ (HS2.out) (fun _ => ?_)
  clear hK K
  try simp only [Act.put, List.setIfInBounds_toArray, List.set_cons_zero, List.set_cons_succ]
  obtain ⟨z0, z1, z2⟩ := cell3 HR2.out
  refine wpAnyH_done (by kernel_rfl) ?_ _
  refine NoPanic.normal ?_
  go_wp2
  refine bodyPost_ret (v := .agg #[.int .i64 ty, .int .i64 x, .int .i64 y]) (by simp [results, Tryd.results40, go_sem, z0, z1, z2]) rfl ?_
  exact ⟨rfl, HB2.out⟩

def imLk (a b : Gr) (l : List Int) (j k : Nat) : List Int := ((List.range k).filter fun q => decide (b.es.getD q default = want a l j)).map fun (q : Nat) => (q : Int)
theorem imLk_succ (a b : Gr) (l : List Int) (j k : Nat) : imLk a b l j (k + 1) = if b.es.getD k default = want a l j then imLk a b l j k ++ [(k : Int)] else imLk a b l j k := by
  unfold imLk
  rw [List.range_succ, List.filter_append, List.map_append]
  by_cases h : b.es.getD k default = want a l j
  · rw [if_pos h, List.filter_cons_of_pos (by simpa using h)]; simp
  · rw [if_neg h, List.filter_cons_of_neg (by simpa using h)]; simp
theorem imLk_len (a b : Gr) (l : List Int) (j k : Nat) : (imLk a b l j k).length ≤ k := by
  unfold imLk
  rw [List.length_map]
  exact Nat.le_trans (List.length_filter_le _ _) (by simp)
/-- rows that are being made: an array of slices, each in a block of its own -/
structure RowsF (w : World) (base og N : Nat) (Vv : Nat → Value) (R : Nat → List Int) : Prop where
  out : w.heap[og]? = some (.cells ((List.range N).map Vv).toArray 22 (0, 0))
  own : ∀ j, j < N → OwnI w base (Vv j) (R j)
  ap : ∀ j k, j < N → k < N → j ≠ k → ∀ q, (Vv j).ownBlock = some q → (Vv k).ownBlock ≠ some q
theorem RowsF.cell {w : World} {base og N : Nat} {Vv : Nat → Value} {R : Nat → List Int} (h : RowsF w base og N Vv R) {j : Nat} (hj : j < N) : w.cell? ⟨og, j, none⟩ = some (Vv j) := by
  rw [cell_of_row _ _ _ _ _ _ h.out, List.getElem?_toArray, List.getElem?_map, List.getElem?_range hj]
  rfl
theorem RowsF.up {w w' : World} {base og N : Nat} {Vv : Nat → Value} {R : Nat → List Int} (h : RowsF w base og N Vv R) (hb : Below w.heap.size w w') : RowsF w' base og N Vv R :=
  ⟨heap_up hb h.out, fun j hj => OwnE.below (h.own j hj) hb (Nat.le_refl _), h.ap⟩
theorem RowsF.congr {w : World} {base og N : Nat} {Vv : Nat → Value} {R R' : Nat → List Int} (h : RowsF w base og N Vv R) (e : ∀ j, j < N → R j = R' j) : RowsF w base og N Vv R' :=
  ⟨h.out, fun j hj => OwnE.cast (e j hj) (h.own j hj), h.ap⟩
/-- a row has grown, and its new slice is stored -/
theorem RowsF.grow {w wa w2 : World} {base og N i : Nat} {Vv : Nat → Value} {R : Nat → List Int} {v' : Value} {xs' : List Int} (h : RowsF w base og N Vv R) (hi : i < N) (hb : Below w.heap.size w wa) (hgr : wa.grownBy w2 (Vv i).ownBlock)
    (ho : OwnI w2 base v' xs') (hv' : v'.ownBlock = (Vv i).ownBlock ∨ ∃ q, v'.ownBlock = some q ∧ wa.heap.size ≤ q) :
    RowsF (w2.setCell ⟨og, i, none⟩ v') base og N (fun j => if j = i then v' else Vv j) (fun j => if j = i then xs' else R j) ∧ (∀ (k : Nat) (cs : Array Value) (t : TypeId), t ≠ 3 → k ≠ og → w.heap[k]? = some (.cells cs t (0, 0)) → (w2.setCell ⟨og, i, none⟩ v').heap[k]? = some (.cells cs t (0, 0))) ∧
    ∀ (k : Nat) (cs : Array Value) (t : TypeId), t ≠ 3 → w.heap[k]? = some (.cells cs t (0, 0)) → w2.heap[k]? = some (.cells cs t (0, 0)) := by
  have s1 := hb.size
  have s2 := hgr.size
  have hlt : ∀ j, j < N → ∀ q, (Vv j).ownBlock = some q → q < w.heap.size := fun j hj q hq => (OwnE.lt (h.own j hj) q hq).2
  have far : ∀ (k : Nat) (cs : Array Value) (t : TypeId), t ≠ 3 → w.heap[k]? = some (.cells cs t (0, 0)) → w2.heap[k]? = some (.cells cs t (0, 0)) := fun k cs t ht hk => by
    have hkl := heap_lt hk
    exact (hgr.block k (by omega) (fun e => own_far (h.own i hi) hk (fun e2 => ht e2.symm) e.symm)).trans ((hb.block k hkl).trans hk)
  have ho2 := far og _ _ (by decide) h.out
  have oth : ∀ j, j < N → j ≠ i → OwnI w2 base (Vv j) (R j) := fun j hj hji => OwnE.same (h.own j hj) fun q hq => by
    have := hlt j hj q hq
    exact (hgr.block q (by omega) (fun e => h.ap j i hj hi hji q hq e.symm)).trans (hb.block q this)
  refine ⟨⟨?_, fun j hj => ?_, fun j k hj hk hjk q hq => ?_⟩, fun k cs t ht hk hh => (heap_setCell_other _ _ _ _ hk).trans (far k cs t ht hh), far⟩
  · rw [heap_setCell_same _ _ _ _ _ _ ho2, List.setIfInBounds_toArray]
    congr 4
    apply List.ext_getElem?
    intro k
    rw [List.getElem?_set]
    by_cases hk : k < N
    · rw [List.getElem?_map, List.getElem?_range hk, List.length_map, List.length_range]
      by_cases e : i = k
      · subst e; rw [if_pos rfl, if_pos hi, List.getElem?_map, List.getElem?_range hi]; simp
      · rw [if_neg e, List.getElem?_map, List.getElem?_range hk]
        simp only [Option.map_some]
        rw [if_neg (fun h => e h.symm)]
    · rw [if_neg (fun e => hk (by omega)), List.getElem?_eq_none (by simpa using hk), List.getElem?_eq_none (by simpa using hk)]
  · have key : ∀ (v : Value) (xs : List Int), OwnI w2 base v xs → OwnI (w2.setCell ⟨og, i, none⟩ v') base v xs := fun v xs hv => OwnE.same hv fun q hq => heap_setCell_other _ _ _ _ (fun e => by
      have e : q = og := e
      subst e
      exact own_far hv ho2 (by decide) hq)
    by_cases e : j = i
    · rw [if_pos e, if_pos e]; exact key _ _ ho
    · rw [if_neg e, if_neg e]; exact key _ _ (oth j hj e)
  · by_cases e1 : j = i
    · rw [if_pos e1] at hq
      rw [if_neg (fun e2 => hjk (e1.trans e2.symm))]
      subst e1
      rcases hv' with e | ⟨q2, e, hl⟩
      · exact h.ap j k hj hk hjk q (e ▸ hq)
      · intro h2
        have := hlt k hk q h2
        rw [e] at hq
        injection hq with hq
        omega
    · rw [if_neg e1] at hq
      by_cases e2 : k = i
      · rw [if_pos e2]
        subst e2
        rcases hv' with e | ⟨q2, e, hl⟩
        · rw [e]; exact h.ap j k hj hk hjk q hq
        · intro h2
          have := hlt j hj q hq
          rw [e] at h2
          injection h2 with h2
          omega
      · rw [if_neg e2]; exact h.ap j k hj hk hjk q hq

theorem infoSl : (Tryd.prog.info? 22).map (fun i => (i.zero, i.size, i.bytes)) = some (some (.slice none 0 0), 1, 24) := by kernel_rfl
theorem wpList_make_R {w : World} {ops : Array Oper} {rest : List Oper} {o : Oper} {a : Act} {Q : Exit → Act → World → Prop} (hgd : o.guard = none) (l c : Operand)
    (ho : o.op = Op.makeSlice 118 l c) (n : Nat) (L : Int) (hL : L = (n : Int)) (hl : a.eval l = .int .i64 L) (hc : a.eval c = .int .i64 L) (hn : n ≤ 1000000)
    (hK : ∀ w', (∀ base, RowsF w' base w.heap.size n (fun _ => .slice none 0 0) (fun _ => [])) → Below w.heap.size w w' → w.heap.size < w'.heap.size → wpList Tryd.prog ops Q rest (a.put o.dst (.slice (some ⟨w.heap.size, 0, none⟩) n n)) w') : wpList Tryd.prog ops Q (o :: rest) a w := by
  obtain ⟨i0, hi, hz0, hz1, hz2⟩ := info_parts infoSl
  refine wpList_make_full w hgd l c 118 ho w.heap.size 22 i0 (.slice none 0 0) 1 Tryd.underlying118 hi hz0 hz1 .i64 .i64 _ _ n hl hc hL hL (by rw [hz2]; omega) (by unfold maxLen; omega) (Nat.le_refl _) ?_
  intro w' h1 h2
  have hlt := (World.ownsRow.lt h1 _ rfl).2
  refine hK w' (fun base => ⟨?_, fun j _ => OwnE.nil _ _ _, fun j k _ _ _ q hq => by cases hq⟩) ((Below.refl _ w).grown h2 (Nat.le_refl _) (by intro k hk; cases hk)) hlt
  rcases h1.2 with ⟨hv, _⟩ | ⟨g, cap, cur, hv, _, hg, _, _, hcs, htk⟩
  · cases hv
  · simp only [Value.slice.injEq, Option.some.injEq, Addr.mk.injEq, and_true, true_and] at hv
    obtain ⟨e1, e3⟩ := hv
    subst e1 e3
    have e4 : cur.toList.length = n * 1 := by rw [Array.length_toList, hcs]
    rw [← e4, List.take_length, e4, Nat.mul_one] at htk
    have e5 : (madeCells (Value.slice none 0 0).cells n).toList = (List.range n).map fun _ => Value.slice none 0 0 := by
      refine (toList_madeCells_one _ _).trans ?_
      rw [List.map_const', List.length_range]
    rw [e5] at htk
    have e6 : cur = ((List.range n).map fun _ => Value.slice none 0 0).toArray := by rw [← htk]
    rw [hg, e6]

theorem op_append_both {w : World} {o : Oper} {a : Act} {K : Act → World → Prop} {Q : Exit → Act → World → Prop} (s x : Operand)
    (ho : o.op = .call { callee := .builtin .append, args := #[s, x], argTypes := #[22, 22] }) (base : Nat) (v : Value) (xs : List Int) (hs : a.eval s = v) (hown : OwnI w base v xs) (g c : Nat) (m : Int) (hx : a.eval x = .slice (some ⟨g, 0, none⟩) 1 c)
    (hc : w.cell? ⟨g, 0, none⟩ = some (.int .i64 m)) (hl : xs.length ≤ 1000000) (hbase : base ≤ w.heap.size)
    (hK : ∀ v' w', OwnI w' base v' (xs ++ [m]) → w.grownBy w' v.ownBlock → (v'.ownBlock = v.ownBlock ∨ ∃ h, v'.ownBlock = some h ∧ w.heap.size ≤ h) → K (a.put o.dst v') w') : o.wp Tryd.prog a w K Q := by
  obtain ⟨v', w', hrun, r1, _, r3, r4⟩ := run_append_both o.type base v xs hown g c m hc hl hbase
  unfold Oper.wp execOp
  simp only [ho, resolve, invoke, builtin, Sem.run_bind, Sem.run_pure, Result.andThen_ok, List.map_toArray, List.map_cons, List.map_nil, hs, hx, hrun]
  exact hK v' w' r1 r3 (r4.imp (fun h => h.1) id)

theorem ek_keeps {W2 wx wa w6 : World} {base og N i : Nat} {Vv : Nat → Value} {R : Nat → List Int} {v : Value} (hk : Keeps (fun x => x = og) W2 wx) (h : RowsF wx base og N Vv R) (hi : i < N) (hb : Below wx.heap.size wx wa) (hgr : wa.grownBy w6 (Vv i).ownBlock) (hB : W2.heap.size ≤ base) : Keeps (fun x => x = og) W2 (w6.setCell ⟨og, i, none⟩ v) := by
  have h1 : Keeps (fun x => x = og ∨ W2.heap.size ≤ x) W2 w6 := by
    have s1 := hk.size
    have s2 := hb.size
    refine ⟨hgr.os.trans (hb.os.trans hk.os), hgr.tape.trans (hb.tape.trans hk.tape), hgr.output.trans (hb.output.trans hk.output), by have := hgr.size; omega, fun k h1 h2 => ?_⟩
    exact (hgr.block k (by omega) (fun e => by have := (OwnE.lt (h.own i hi) k e.symm).1; omega)).trans ((hb.block k (by omega)).trans (hk.block k h1 (fun e => h2 (.inl e))))
  have h2 := h1.trans (keeps_setCell (H := fun x => x = og ∨ W2.heap.size ≤ x) w6 ⟨og, i, none⟩ v (.inl rfl)) fun _ _ h => h
  exact h2.mono fun k hk h => h.elim id (fun h => by omega)

set_option maxRecDepth 100000 in
set_option maxHeartbeats 4000000 in
theorem edgeMaps_any (a b : Gr) (ha : validE a = 0) (hb : validE b = 0) (l : List Int) (hl : l.length = a.ns.length) (An : Option Addr) (cn : Nat) (Ae : Option Addr) (ce : Nat) (Bn : Option Addr) (dn : Nat) (Be : Option Addr) (de : Nat) (Nn : Option Addr) (nn : Nat) (w : World) (hTa : GrAt w An cn Ae ce a) (hTb : GrAt w Bn dn Be de b) (hN : Ints w w.heap.size Nn l) :
    Calls Tryd.prog 70 #[gval An a.ns.length cn Ae a.es.length ce, gval Bn b.ns.length dn Be b.es.length de, .slice Nn l.length nn] w fun e w' => ∃ im cap A, e = .returned (.func (.func 85) #[] #[.pointer (some ⟨im, 0, none⟩)]) ∧ Boxed w' im 118 (.slice A (imLs a b l).length cap) ∧ RowsIn (fun b => w.heap.size ≤ b ∧ b < w'.heap.size) w' A (imLs a b l) ∧ Below w.heap.size w w' := by
  have HTA := Lib.hid hTa
  have HTB := Lib.hid hTb
  have HVA := Lib.hid ha
  have HVB := Lib.hid hb
  have HN := Lib.hid hN
  have HLN := Lib.hid hl
  have la := (valid_zero ha).1
  have le := (valid_zero ha).2.1
  have lb := (valid_zero hb).2.1
  have HIL : Hid ((imLs a b l).length = a.es.length) := Lib.hid (by unfold imLs; simp)
  clear hTa hTb ha hb hN hl
  go_enter Tryd.func70, Tryd.ntmps70
  go_upto_region 1 with fail
  generalize hW0 : (w.alloc _).alloc _ = W0
  have hB0 : Below w.heap.size w W0 := by
    rw [← hW0]
    exact ((Below.refl _ _).alloc (Nat.le_refl _) _).alloc (by simp) _
  have hg0 : W0.heap[w.heap.size]? = some (.cells #[.slice An a.ns.length cn, .slice Ae a.es.length ce] 25 (0, 0)) := by rw [← hW0]; exact heap_two _ _ _
  have hg1 : W0.heap[w.heap.size + 1]? = some (.cells #[.slice Bn b.ns.length dn, .slice Be b.es.length de] 25 (0, 0)) := by rw [← hW0]; exact heap_two' _ _ _
  have hs0 : W0.heap.size = w.heap.size + 2 := by rw [← hW0]; simp
  obtain ⟨g1, g2⟩ := cell2 hg0
  have HG0 := Lib.hid hg0
  have HG1 := Lib.hid hg1
  have HB0 := Lib.hid hB0
  clear hW0 hg0 hg1 hB0
  go_upto_region 2 with (at_make; refine wpList_make_R rfl _ _ rfl a.es.length _ rfl rfl rfl (by omega) ?_; intro w1 hrows hb1 hsz1)
  rw [hs0] at hrows hb1 hsz1
  have hr1 := hrows (w1.heap.size + 1)
  have hbA : Below w1.heap.size w1 (w1.alloc (.cells #[.slice (some ⟨w.heap.size + 2, 0, none⟩) a.es.length a.es.length] 118)) := (Below.refl _ _).alloc (Nat.le_refl _) _
  have him : Boxed (w1.alloc (.cells #[.slice (some ⟨w.heap.size + 2, 0, none⟩) a.es.length a.es.length] 118)) w1.heap.size 118 (.slice (some ⟨w.heap.size + 2, 0, none⟩) a.es.length a.es.length) := Boxed.new w1 _ _
  have hs2 : (w1.alloc (.cells #[.slice (some ⟨w.heap.size + 2, 0, none⟩) a.es.length a.es.length] 118)).heap.size = w1.heap.size + 1 := by simp
  generalize w1.alloc (.cells #[.slice (some ⟨w.heap.size + 2, 0, none⟩) a.es.length a.es.length] 118) = W2 at *
  have hr2 := hr1.up hbA
  have hb2 : Below (w.heap.size + 2) W0 W2 := hb1.trans (hbA.mono (by omega))
  have p0 : W2.heap[w.heap.size]? = some (.cells #[.slice An a.ns.length cn, .slice Ae a.es.length ce] 25 (0, 0)) := (hb2.block _ (by omega)).trans HG0.out
  have p1 : W2.heap[w.heap.size + 1]? = some (.cells #[.slice Bn b.ns.length dn, .slice Be b.es.length de] 25 (0, 0)) := (hb2.block _ (by omega)).trans HG1.out
  have hbw : Below w.heap.size w W2 := HB0.out.trans (hb2.mono (by omega))
  obtain ⟨og, hog⟩ : ∃ og, og = w.heap.size + 2 := ⟨_, rfl⟩
  obtain ⟨im, him0⟩ : ∃ im, im = w1.heap.size := ⟨_, rfl⟩
  rw [← hog] at hr2 him hsz1 ⊢
  rw [← him0] at hr2 him hsz1 hs2 ⊢
  clear g1 g2 hrows hr1 hbA hb1 hb2 HG0 HG1 HB0 him0 hs0
  obtain ⟨g1, g2⟩ := cell2 p0
  have HR2 := Lib.hid hr2
  have HIM := Lib.hid him
  have HBW := Lib.hid hbw
  have HP0 := Lib.hid p0
  have HP1 := Lib.hid p1
  have HOG := Lib.hid hog
  have HS2 := Lib.hid hs2
  have HOI := Lib.hid hsz1
  clear hr2 him hbw p0 p1 hog hs2 hsz1
  go_upto_region 3 with fail
  clear g1 g2
  go_loopw [20] (fun v wr => ∃ (i : Nat) (Vv : Nat → Value), i ≤ a.es.length ∧ v = .int .i64 (i : Int) ∧ RowsF wr (im + 1) og a.es.length Vv (fun j => if j < i then imL a b l j else []) ∧ Keeps (fun x => x = og) W2 wr) (fun v _ => a.es.length - (intOf v).toNat)
  case atStart => exact ⟨0, _, Nat.zero_le _, rfl, HR2.out, Keeps.refl _ _⟩
  case round =>
    obtain ⟨i, Vv, hi, rfl, q1, q2⟩ := hrel
    clear HR2
    have qs := q2.size
    have hbel : Below w.heap.size w wr := HBW.out.trans (q2.below (by have := HBW.out.size; omega) (fun j h => by have := HOG.out; omega))
    have p1 := (q2.block (w.heap.size + 1) (by have := HS2.out; have := HOI.out; have := HOG.out; omega) (by have := HOG.out; omega)).trans HP1.out
    by_cases hlt : i < a.es.length
    · obtain ⟨eb, off, rfl, heb, hc⟩ := Eds.cells (HTA.out.es.below hbel) hlt
      obtain ⟨c0, c1, c2⟩ := hc i hlt
      have hv := valid_at HVA.out hlt
      have hME := Lib.hid (fun (u : World) (hu : Below w.heap.size w u) => moveEnds_any (a.es.getD i default) l Nn nn u w.heap.size (HN.out.below hu) (by have := HLN.out; omega) (by have := HLN.out; omega))
      have HWT : Hid (want a l i = ⟨(a.es.getD i default).ty, l.getD (a.es.getD i default).fr.toNat 0, l.getD (a.es.getD i default).tq.toNat 0⟩) := Lib.hid rfl
      clear hc hv
      generalize a.es.getD i default = x at *
      obtain ⟨ty, fr, tt⟩ := x
      dsimp only at c0 c1 c2 hME HWT
      generalize l.getD fr.toNat 0 = y1 at hME HWT
      generalize l.getD tt.toNat 0 = y2 at hME HWT
      have hi0 : (0 : Int) ≤ (i : Int) := by omega
      have hi1 : (i : Int) < (a.es.length : Int) := by omega
      have hi2 : ((i : Int)).toNat = i := by omega
      have HQ1 := Lib.hid q1
      have HQ2 := Lib.hid q2
      have HL := Lib.hid hlt
      have HM : Hid (a.es.length - ((i : Int) + 1).toNat < a.es.length - ((i : Int)).toNat) := Lib.hid (by omega)
      have HBR := Lib.hid hbel
      have HPP := Lib.hid p1
      clear q1 q2 hbel hlt p1
      go_upto_region 5 with fail
      generalize hwx : wr.alloc _ = wx
      have hbx : Below wr.heap.size wr wx := by rw [← hwx]; exact (Below.refl _ _).alloc (Nat.le_refl _) _
      have he : wx.heap[wr.heap.size]? = some (.cells #[.int .i64 ty, .int .i64 fr, .int .i64 tt] 65 (0, 0)) := by rw [← hwx]; exact heap_alloc_new _ _
      clear hwx c0 c1 c2
      obtain ⟨e0, e1, e2⟩ := cell3 he
      have HMM := Lib.hid (hME.out wx (HBR.out.trans (hbx.mono HBR.out.size)))
      have HBX := Lib.hid hbx
      clear he hbx hME
      go_upto_region 6 with (go_at_call 40; refine HMM.out.mono ?_; rintro e w3 ⟨rfl, hb3⟩)
      have hs3 := hb3.size
      have hb4 : Below wx.heap.size wx (w3.alloc (.cells #[.int .i64 ty, .int .i64 y1, .int .i64 y2] 65)) := hb3.trans (((Below.refl _ _).alloc (Nat.le_refl _) _).mono hs3)
      have ht4 : (w3.alloc (.cells #[.int .i64 ty, .int .i64 y1, .int .i64 y2] 65)).heap[w3.heap.size]? = some (.cells #[.int .i64 ty, .int .i64 y1, .int .i64 y2] 65 (0, 0)) := heap_alloc_new _ _
      generalize w3.alloc (.cells #[.int .i64 ty, .int .i64 y1, .int .i64 y2] 65) = W4 at *
      obtain ⟨tb, htb⟩ : ∃ tb, tb = w3.heap.size := ⟨_, rfl⟩
      rw [← htb] at ht4 ⊢
      have hb5 : Below wr.heap.size wr W4 := HBX.out.trans (hb4.mono HBX.out.size)
      have q1 : RowsF W4 (im + 1) og a.es.length Vv (fun j => if j < i then imL a b l j else if j = i then imLk a b l i 0 else []) := (HQ1.out.up hb5).congr fun j hj => by
        by_cases h1 : j < i
        · rw [if_pos h1, if_pos h1]
        · rw [if_neg h1, if_neg h1]; split <;> rfl
      have q2 : Keeps (fun x => x = og) W2 W4 := HQ2.out.trans (Keeps.of_below' _ hb5) fun _ _ h => h
      obtain ⟨g1, g2⟩ := cell2 (heap_up hb5 HPP.out)
      have HTG : Hid (tb ≠ og) := Lib.hid (by have := HBX.out.size; have := HOG.out; have := HS2.out; have := HOI.out; omega)
      have HTB4 := Lib.hid ht4
      have HQ1 := Lib.hid q1
      have HQ2 := Lib.hid q2
      clear hs3 hb3 hb4 ht4 htb hb5 q1 q2 HMM HBX HBR HPP e0 e1 e2 qs
      go_upto_region 7 with fail
      clear g1 g2
      go_loopw [31] (fun v wy => ∃ (k : Nat) (Vv : Nat → Value), k ≤ b.es.length ∧ v = .int .i64 (k : Int) ∧ RowsF wy (im + 1) og a.es.length Vv (fun j => if j < i then imL a b l j else if j = i then imLk a b l i k else []) ∧ Keeps (fun x => x = og) W2 wy ∧ wy.heap[tb]? = some (.cells #[.int .i64 ty, .int .i64 y1, .int .i64 y2] 65 (0, 0))) (fun v _ => b.es.length - (intOf v).toNat)
      case atStart => exact ⟨0, _, Nat.zero_le _, rfl, HQ1.out, HQ2.out, HTB4.out⟩
      case round =>
        obtain ⟨k, Vv, hk, rfl, q1, q2, q3⟩ := hrel
        clear HQ1 HQ2 HTB4
        have hbel : Below w.heap.size w wr := HBW.out.trans (q2.below (by have := HBW.out.size; omega) (fun j h => by have := HOG.out; omega))
        by_cases hlt : k < b.es.length
        · obtain ⟨fb, off2, rfl, hfb, hc⟩ := Eds.cells (HTB.out.es.below hbel) hlt
          obtain ⟨c0, c1, c2⟩ := hc k hlt
          have HSU := Lib.hid (imLk_succ a b l i k)
          have HLE := Lib.hid (imLk_len a b l i k)
          clear hc
          generalize b.es.getD k default = y at *
          obtain ⟨ty2, fr2, tt2⟩ := y
          dsimp only at c0 c1 c2
          have hk0 : (0 : Int) ≤ (k : Int) := by omega
          have hk1 : (k : Int) < (b.es.length : Int) := by omega
          have hk2 : ((k : Int)).toNat = k := by omega
          have HQ1 := Lib.hid q1
          have HQ2 := Lib.hid q2
          have HQ3 := Lib.hid q3
          have HL2 := Lib.hid hlt
          have HM2 : Hid (b.es.length - ((k : Int) + 1).toNat < b.es.length - ((k : Int)).toNat) := Lib.hid (by omega)
          clear q1 q2 q3 hbel hlt
          go_upto_region 9 with fail
          generalize hwx : wr.alloc _ = wx
          have hbx : Below wr.heap.size wr wx := by rw [← hwx]; exact (Below.refl _ _).alloc (Nat.le_refl _) _
          have he : wx.heap[wr.heap.size]? = some (.cells #[.int .i64 ty2, .int .i64 fr2, .int .i64 tt2] 65 (0, 0)) := by rw [← hwx]; exact heap_alloc_new _ _
          clear hwx c0 c1 c2
          have q1 := HQ1.out.up hbx
          have q2 : Keeps (fun x => x = og) W2 wx := HQ2.out.trans (Keeps.of_below' _ hbx) fun _ _ h => h
          have q3 := heap_up hbx HQ3.out
          obtain ⟨e0, e1, e2⟩ := cell3 he
          obtain ⟨t0, t1, t2⟩ := cell3 q3
          have HQ1 := Lib.hid q1
          have HQ2 := Lib.hid q2
          have HQ3 := Lib.hid q3
          clear q1 q2 q3 he hbx
          by_cases hy : (⟨ty2, fr2, tt2⟩ : Ed) = ⟨ty, y1, y2⟩
          · rw [if_pos (by rw [HWT.out]; exact hy)] at HSU
            injection hy with h1 h2 h3
            subst h1 h2 h3
            go_upto_region 10 with fail
            all_goals try (rename_i hq; exact absurd rfl hq)
            have HIO : Hid (im ≠ og) := Lib.hid (by have := HOI.out; omega)
            have HIX : Hid (wx.heap[im]? = some (.cells #[.slice (some ⟨og, 0, none⟩) a.es.length a.es.length] 118 (0, 0))) := Lib.hid ((HQ2.out.block im (by have := HS2.out; omega) HIO.out).trans HIM.out)
            have HII : Hid (W2.heap.size ≤ im + 1) := Lib.hid (by have := HS2.out; omega)
            have HOW : Hid (OwnI wx (im + 1) (Vv i) (imLk a b l i k)) := Lib.hid (OwnE.cast (by rw [if_neg (Nat.lt_irrefl _), if_pos rfl]) (HQ1.out.own i HL.out))
            have HS : Hid ((fun u : World => u.cell? ⟨im, 0, none⟩ = some (.slice (some ⟨og, 0, none⟩) a.es.length a.es.length)) wx.drew) := Lib.hid (cell_of_row _ _ _ _ _ _ HIX.out)
            have d5 := HQ1.out.cell HL.out
            clear e0 e1 e2 t0 t1 t2
            refine wp_region_noPanic ?_
            refine wp_region_held_drew (S := (fun u : World => u.cell? ⟨im, 0, none⟩ = some (.slice (some ⟨og, 0, none⟩) a.es.length a.es.length))) (by kernel_rfl) (HS.out) (fun hHeld => ?_)
            refine wpAnyH_take (i := 0) (v := ?_) (oper_at (r := _) rfl) (by kernel_rfl) (by kernel_rfl) (by kernel_rfl) (fun _ _ _ h => h) (Or.inl ⟨by rfl, ?_⟩) (by assumption) ?_
            rotate_left
            · intro w hSw; try dsimp only at hSw
              go_simp
              try with_reducible rfl
            try simp only [Act.put, List.setIfInBounds_toArray, List.set_cons_zero, List.set_cons_succ]
            refine wpAnyH_take (i := 1) (v := ?_) (oper_at (r := _) rfl) (by kernel_rfl) (by kernel_rfl) (by kernel_rfl) (fun _ _ _ h => h) (Or.inl ⟨by rfl, ?_⟩) (by assumption) ?_
            rotate_left
            · intro w hSw; try dsimp only at hSw
              go_simp
              try with_reducible rfl
            try simp only [Act.put, List.setIfInBounds_toArray, List.set_cons_zero, List.set_cons_succ]
            refine wpAnyH_take (i := 2) (v := ?_) (oper_at (r := _) rfl) (by kernel_rfl) (by kernel_rfl) (by kernel_rfl) (fun _ _ _ h => h) (Or.inl ⟨by rfl, ?_⟩) (by assumption) ?_
            rotate_left
            · intro w hSw; try dsimp only at hSw
              go_simp
              try with_reducible rfl
            try simp only [Act.put, List.setIfInBounds_toArray, List.set_cons_zero, List.set_cons_succ]
            refine wpAnyH_take (i := 3) (v := ?_) (oper_at (r := _) rfl) (by kernel_rfl) (by kernel_rfl) (by kernel_rfl) (fun _ _ _ h => h) (Or.inl ⟨by rfl, ?_⟩) (by assumption) ?_
            rotate_left
            · intro w hSw; try dsimp only at hSw
              go_simp
              try with_reducible rfl
            try simp only [Act.put, List.setIfInBounds_toArray, List.set_cons_zero, List.set_cons_succ]
            refine wpAnyH_take (i := 4) (v := ?_) (oper_at (r := _) rfl) (by kernel_rfl) (by kernel_rfl) (by kernel_rfl) (fun _ _ _ h => h) (Or.inl ⟨by rfl, ?_⟩) (by assumption) ?_
            rotate_left
            · intro w hSw; try dsimp only at hSw
              go_simp
              try with_reducible rfl
            try simp only [Act.put, List.setIfInBounds_toArray, List.set_cons_zero, List.set_cons_succ]
            refine wpAnyH_take (i := 6) (v := ?_) (oper_at (r := _) rfl) (by kernel_rfl) (by kernel_rfl) (by kernel_rfl) (fun _ _ _ h => h) (Or.inl ⟨by rfl, ?_⟩) (by assumption) ?_
            rotate_left
            · intro w hSw; try dsimp only at hSw
              go_simp
              try with_reducible rfl
            try simp only [Act.put, List.setIfInBounds_toArray, List.set_cons_zero, List.set_cons_succ]
            refine wpAnyH_ready (rs := [5, 7]) (by kernel_rfl) (by simp) ?_
            refine AllReadyH.cons (oper_at (r := _) rfl) (fun K hK => ?_) (AllReadyH.cons (oper_at (r := _) rfl) (fun K hK => ?_) AllReadyH.nil)
            · have HB5 : Hid (Below wx.heap.size wx (wx.alloc (.cells #[.int .i64 (k : Int)] 3)).drew) := Lib.hid ((Below.refl _ wx).alloc (Nat.le_refl _) _).drew
              have HOW5 : Hid (OwnI (wx.alloc (.cells #[.int .i64 (k : Int)] 3)).drew (im + 1) (Vv i) (imLk a b l i k)) := Lib.hid (OwnE.below HOW.out HB5.out (Nat.le_refl _))
              have HIL5 : Hid (im + 1 ≤ (wx.alloc (.cells #[.int .i64 (k : Int)] 3)).drew.heap.size) := Lib.hid (by have := HQ2.out.size; have := HS2.out; have := HB5.out.size; omega)
              have HS5a : Hid ((fun u : World => u.cell? ⟨im, 0, none⟩ = some (.slice (some ⟨og, 0, none⟩) a.es.length a.es.length)) (wx.alloc (.cells #[.int .i64 (k : Int)] 3)).drew) := Lib.hid (cell_of_row _ _ _ _ _ _ ((HB5.out.block im (heap_lt HIX.out)).trans HIX.out))
              go_simp
              refine hK.out _ _ (HS.out) (fun _ => ?_)
              clear hK K
              try simp only [Act.put, List.setIfInBounds_toArray, List.set_cons_zero, List.set_cons_succ]
              refine wpAnyH_ready (rs := [7]) (by kernel_rfl) (by simp) ?_
              refine AllReadyH.cons (oper_at (r := _) rfl) (fun K hK => ?_) AllReadyH.nil
              go_simp
              refine hK.out _ _ (HS5a.out) (fun _ => ?_)
              clear hK K
              try simp only [Act.put, List.setIfInBounds_toArray, List.set_cons_zero, List.set_cons_succ]
              refine wpAnyH_ready (rs := [8]) (by kernel_rfl) (by simp) ?_
              refine AllReadyH.cons (oper_at (r := _) rfl) (fun K hK => ?_) AllReadyH.nil
              rw [if_pos (by rfl)]
              refine op_append_both _ _ rfl (im + 1) (Vv i) (imLk a b l i k) rfl HOW5.out wx.heap.size 1 (k : Int) rfl (cell_new wx _ _) (by have := HLE.out; omega) (by have := HIL5.out; omega) ?_
              intro v6 w6 r1 r2 r3
              obtain ⟨f1, f2, f3⟩ := HQ1.out.grow HL.out HB5.out r2 r1 r3
              obtain ⟨a6, c6, hv6⟩ := OwnE.slice r1
              generalize (imLk a b l i k ++ [(k : Int)]).length = n6 at hv6
              subst hv6
              have HS6 : Hid ((fun u : World => u.cell? ⟨im, 0, none⟩ = some (.slice (some ⟨og, 0, none⟩) a.es.length a.es.length)) w6) := Lib.hid (cell_of_row _ _ _ _ _ _ (f3 im _ _ (by decide) HIX.out))
              have HS7 : Hid ((fun u : World => u.cell? ⟨im, 0, none⟩ = some (.slice (some ⟨og, 0, none⟩) a.es.length a.es.length)) (w6.setCell ⟨og, i, none⟩ (.slice a6 n6 c6))) := Lib.hid (cell_of_row _ _ _ _ _ _ (f2 im _ _ (by decide) HIO.out HIX.out))
              have HT7 := Lib.hid (f2 tb _ _ (by decide) HTG.out HQ3.out)
              have HR7 := Lib.hid (f1.congr (R' := fun j => if j < i then imL a b l j else if j = i then imLk a b l i (k + 1) else []) fun j hj => by
                by_cases e : j = i
                · subst e
                  show (if j = j then _ else _) = _
                  rw [if_pos rfl, if_neg (Nat.lt_irrefl _), if_pos rfl, HSU.out]
                · show (if j = i then _ else _) = _
                  rw [if_neg e, if_neg e, if_neg e])
              have hq7 : Keeps (fun x => x = og) W2 (w6.setCell ⟨og, i, none⟩ (.slice a6 n6 c6)) := ek_keeps HQ2.out HQ1.out HL.out HB5.out r2 HII.out
              have HQ7 := Lib.hid hq7
              have o6 := f3 og _ _ (by decide) HQ1.out.out
              have d6 : w6.cell? ⟨og, i, none⟩ = some (Vv i) := by
                rw [cell_of_row _ _ _ _ _ _ o6, List.getElem?_toArray, List.getElem?_map, List.getElem?_range HL.out]; rfl
              have d6f : w6.frozen? ⟨og, i, none⟩ = false := frozen_of_row _ _ _ _ _ o6
              clear r1 r2 r3 f1 f2 f3 o6 hq7
              refine hK.out _ _ (HS6.out) (fun _ => ?_)
              clear hK K
              try simp only [Act.put, List.setIfInBounds_toArray, List.set_cons_zero, List.set_cons_succ]
              refine wpAnyH_take (i := 9) (v := ?_) (oper_at (r := _) rfl) (by kernel_rfl) (by kernel_rfl) (by kernel_rfl) (fun _ _ _ h => h) (Or.inl ⟨by rfl, ?_⟩) (by assumption) ?_
              rotate_left
              · intro w hSw; try dsimp only at hSw
                go_simp
                try with_reducible rfl
              try simp only [Act.put, List.setIfInBounds_toArray, List.set_cons_zero, List.set_cons_succ]
              refine wpAnyH_ready (rs := [10]) (by kernel_rfl) (by simp) ?_
              refine AllReadyH.cons (oper_at (r := _) rfl) (fun K hK => ?_) AllReadyH.nil
              go_simp
              refine hK.out _ _ (HS7.out) (fun _ => ?_)
              clear hK K
              try simp only [Act.put, List.setIfInBounds_toArray, List.set_cons_zero, List.set_cons_succ]
              refine wpAnyH_done (by kernel_rfl) ?_ _
              refine NoPanic.normal ?_
              go_wp2
              go_roundw
              case rel => exact ⟨k + 1, _, HL2.out, by go_num, HR7.out, HQ7.out, HT7.out⟩
              case measure => exact HM2.out
            · have HB5 : Hid (Below wx.heap.size wx (wx.alloc (.cells #[.int .i64 (k : Int)] 3)).drew) := Lib.hid ((Below.refl _ wx).alloc (Nat.le_refl _) _).drew
              have HOW5 : Hid (OwnI (wx.alloc (.cells #[.int .i64 (k : Int)] 3)).drew (im + 1) (Vv i) (imLk a b l i k)) := Lib.hid (OwnE.below HOW.out HB5.out (Nat.le_refl _))
              have HIL5 : Hid (im + 1 ≤ (wx.alloc (.cells #[.int .i64 (k : Int)] 3)).drew.heap.size) := Lib.hid (by have := HQ2.out.size; have := HS2.out; have := HB5.out.size; omega)
              have HS5a : Hid ((fun u : World => u.cell? ⟨im, 0, none⟩ = some (.slice (some ⟨og, 0, none⟩) a.es.length a.es.length)) (wx.alloc (.cells #[.int .i64 (k : Int)] 3)).drew) := Lib.hid (cell_of_row _ _ _ _ _ _ ((HB5.out.block im (heap_lt HIX.out)).trans HIX.out))
              go_simp
              refine hK.out _ _ (HS5a.out) (fun _ => ?_)
              clear hK K
              try simp only [Act.put, List.setIfInBounds_toArray, List.set_cons_zero, List.set_cons_succ]
              have d5a : (wx.alloc (.cells #[.int .i64 (k : Int)] 3)).drew.cell? ⟨og, i, none⟩ = some (Vv i) := (HB5.out.cell (p := ⟨og, i, none⟩) (heap_lt HQ1.out.out)).trans d5
              refine wpAnyH_ready (rs := [5]) (by kernel_rfl) (by simp) ?_
              refine AllReadyH.cons (oper_at (r := _) rfl) (fun K hK => ?_) AllReadyH.nil
              go_simp
              refine hK.out _ _ (HS5a.out) (fun _ => ?_)
              clear hK K
              try simp only [Act.put, List.setIfInBounds_toArray, List.set_cons_zero, List.set_cons_succ]
              refine wpAnyH_ready (rs := [8]) (by kernel_rfl) (by simp) ?_
              refine AllReadyH.cons (oper_at (r := _) rfl) (fun K hK => ?_) AllReadyH.nil
              rw [if_pos (by rfl)]
              refine op_append_both _ _ rfl (im + 1) (Vv i) (imLk a b l i k) rfl HOW5.out wx.heap.size 1 (k : Int) rfl (cell_new wx _ _) (by have := HLE.out; omega) (by have := HIL5.out; omega) ?_
              intro v6 w6 r1 r2 r3
              obtain ⟨f1, f2, f3⟩ := HQ1.out.grow HL.out HB5.out r2 r1 r3
              obtain ⟨a6, c6, hv6⟩ := OwnE.slice r1
              generalize (imLk a b l i k ++ [(k : Int)]).length = n6 at hv6
              subst hv6
              have HS6 : Hid ((fun u : World => u.cell? ⟨im, 0, none⟩ = some (.slice (some ⟨og, 0, none⟩) a.es.length a.es.length)) w6) := Lib.hid (cell_of_row _ _ _ _ _ _ (f3 im _ _ (by decide) HIX.out))
              have HS7 : Hid ((fun u : World => u.cell? ⟨im, 0, none⟩ = some (.slice (some ⟨og, 0, none⟩) a.es.length a.es.length)) (w6.setCell ⟨og, i, none⟩ (.slice a6 n6 c6))) := Lib.hid (cell_of_row _ _ _ _ _ _ (f2 im _ _ (by decide) HIO.out HIX.out))
              have HT7 := Lib.hid (f2 tb _ _ (by decide) HTG.out HQ3.out)
              have HR7 := Lib.hid (f1.congr (R' := fun j => if j < i then imL a b l j else if j = i then imLk a b l i (k + 1) else []) fun j hj => by
                by_cases e : j = i
                · subst e
                  show (if j = j then _ else _) = _
                  rw [if_pos rfl, if_neg (Nat.lt_irrefl _), if_pos rfl, HSU.out]
                · show (if j = i then _ else _) = _
                  rw [if_neg e, if_neg e, if_neg e])
              have hq7 : Keeps (fun x => x = og) W2 (w6.setCell ⟨og, i, none⟩ (.slice a6 n6 c6)) := ek_keeps HQ2.out HQ1.out HL.out HB5.out r2 HII.out
              have HQ7 := Lib.hid hq7
              have o6 := f3 og _ _ (by decide) HQ1.out.out
              have d6 : w6.cell? ⟨og, i, none⟩ = some (Vv i) := by
                rw [cell_of_row _ _ _ _ _ _ o6, List.getElem?_toArray, List.getElem?_map, List.getElem?_range HL.out]; rfl
              have d6f : w6.frozen? ⟨og, i, none⟩ = false := frozen_of_row _ _ _ _ _ o6
              clear r1 r2 r3 f1 f2 f3 o6 hq7
              refine hK.out _ _ (HS6.out) (fun _ => ?_)
              clear hK K
              try simp only [Act.put, List.setIfInBounds_toArray, List.set_cons_zero, List.set_cons_succ]
              refine wpAnyH_take (i := 9) (v := ?_) (oper_at (r := _) rfl) (by kernel_rfl) (by kernel_rfl) (by kernel_rfl) (fun _ _ _ h => h) (Or.inl ⟨by rfl, ?_⟩) (by assumption) ?_
              rotate_left
              · intro w hSw; try dsimp only at hSw
                go_simp
                try with_reducible rfl
              try simp only [Act.put, List.setIfInBounds_toArray, List.set_cons_zero, List.set_cons_succ]
              refine wpAnyH_ready (rs := [10]) (by kernel_rfl) (by simp) ?_
              refine AllReadyH.cons (oper_at (r := _) rfl) (fun K hK => ?_) AllReadyH.nil
              go_simp
              refine hK.out _ _ (HS7.out) (fun _ => ?_)
              clear hK K
              try simp only [Act.put, List.setIfInBounds_toArray, List.set_cons_zero, List.set_cons_succ]
              refine wpAnyH_done (by kernel_rfl) ?_ _
              refine NoPanic.normal ?_
              go_wp2
              go_roundw
              case rel => exact ⟨k + 1, _, HL2.out, by go_num, HR7.out, HQ7.out, HT7.out⟩
              case measure => exact HM2.out
          · rw [if_neg (by rw [HWT.out]; exact hy)] at HSU
            go_wp2
            all_goals first | (exfalso; apply hy; congr <;> assumption) | go_roundw
            all_goals first | exact HM2.out | exact ⟨k + 1, Vv, HL2.out, by go_num, by rw [HSU.out]; exact HQ1.out, HQ2.out, HQ3.out⟩
        · obtain rfl : k = b.es.length := by omega
          have HR8 : Hid (RowsF wr (im + 1) og a.es.length Vv (fun j => if j < i + 1 then imL a b l j else [])) := Lib.hid (q1.congr fun j hj => by
            by_cases h1 : j < i
            · rw [if_pos h1, if_pos (by omega)]
            · by_cases h2 : j = i
              · subst h2
                rw [if_neg h1, if_pos rfl, if_pos (by omega)]
                rfl
              · rw [if_neg h1, if_neg h2, if_neg (by omega)])
          have HQ2 := Lib.hid q2
          clear q1 q2 q3 hbel hlt hk
          go_wp2
          go_roundw
          case rel => exact ⟨i + 1, Vv, HL.out, by go_num, HR8.out, HQ2.out⟩
          case measure => exact HM.out
    · obtain rfl : i = a.es.length := by omega
      have hl2 := HIL.out
      have hs5 := HBW.out.size
      have HEND : Hid (Boxed wr im 118 (.slice (some ⟨og, 0, none⟩) (imLs a b l).length a.es.length) ∧ RowsIn (fun b => w.heap.size ≤ b ∧ b < wr.heap.size) wr (some ⟨og, 0, none⟩) (imLs a b l) ∧ Below w.heap.size w wr) := by
        refine Lib.hid ⟨?_, .inr ⟨og, rfl, ⟨by have := HOG.out; omega, heap_lt q1.out⟩, heap_lt q1.out, fun j hj => ⟨Vv j, q1.cell (by omega), ?_⟩⟩, hbel⟩
        · rw [hl2]
          exact (q2.block im (by have := HS2.out; omega) (by have := HOI.out; omega)).trans HIM.out
        · have e : (imLs a b l)[j] = imL a b l j := by simp [imLs]
          have ho : OwnI wr (im + 1) (Vv j) (imL a b l j) := OwnE.cast (by rw [if_pos (by omega)]) (q1.own j (by omega))
          rw [e]
          exact (InG.own ho).mono fun b hb => ⟨by have := (OwnE.lt ho b hb).1; have := HOI.out; have := HOG.out; omega, (OwnE.lt ho b hb).2⟩
      clear q1 q2 hbel hlt hi p1 qs
      go_wp2
      go_ret
      exact ⟨im, a.es.length, some ⟨og, 0, none⟩, rfl, HEND.out⟩

end Go.Proofs.YtaeelanbkdkppaaDoor

