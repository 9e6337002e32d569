/-
  Drafts: Made of the reference. (Printed by mkmade2.py.)
-/
import Derived.Test.YtiafmhdicgmfaaaGDr
import Derived.Test.YtiafmhdicgmfaaaChain
import Derived.Deep.DeepCutAuto
namespace Go.Proofs.Ytiafmhdicgmfaaa
open Go.RowKit

/-- the draft's box, a cell that is read, all below the result -/
abbrev SM3 (w : World) (u v : Value) (w0 : World) (b o : Nat) (x y z : Value) (W : World) : Prop := ((W.cell? ⟨w.heap.size, 0, none⟩ = some u ∧ W.cell? ⟨w.heap.size, 1, none⟩ = some v) ∧ W.cell? ⟨b, o, none⟩ = some x ∧ W.cell? ⟨b, o + 1, none⟩ = some y ∧ W.cell? ⟨b, o + 2, none⟩ = some z) ∧ Below (w.heap.size + 2) w0 W
/-- the same with one cell -/
abbrev SM (w : World) (u v : Value) (w0 : World) (b o : Nat) (x : Value) (W : World) : Prop := ((W.cell? ⟨w.heap.size, 0, none⟩ = some u ∧ W.cell? ⟨w.heap.size, 1, none⟩ = some v) ∧ W.cell? ⟨b, o, none⟩ = some x) ∧ Below (w.heap.size + 2) w0 W
theorem OwnE.stored' {α : Type} {E : El α} {t : TypeId} {w : World} {base : Nat} {v : Value} {xs : List α} {a : Addr} (h : OwnE E t w base v xs) (ha : a.block < base) (u : Value) : OwnE E t (w.setCell a u) base v xs := ownsRow_setCell_below h ha u
theorem alloc3 (w : World) (o1 o2 o3 : Obj) : (((w.alloc o1).alloc o2).alloc o3).heap[w.heap.size]? = some o1 ∧ (((w.alloc o1).alloc o2).alloc o3).heap[w.heap.size + 1]? = some o2 ∧ (((w.alloc o1).alloc o2).alloc o3).heap[w.heap.size + 2]? = some o3 ∧ Below w.heap.size w (((w.alloc o1).alloc o2).alloc o3) ∧ (((w.alloc o1).alloc o2).alloc o3).heap.size = w.heap.size + 3 := by
  have h1 := heap_two w o1 o2
  have h2 := heap_two' w o1 o2
  have hs : ((w.alloc o1).alloc o2).heap.size = w.heap.size + 2 := by simp
  have h3 := heap_alloc_new ((w.alloc o1).alloc o2) o3
  rw [hs] at h3
  have hb := below_a ((w.alloc o1).alloc o2) o3
  exact ⟨heap_up hb h1, heap_up hb h2, h3, ((Below.refl _ _).alloc (Nat.le_refl _) _).alloc (by simp) _ |>.trans (hb.mono (by simp; omega)), by simp⟩
set_option maxRecDepth 100000 in
set_option maxHeartbeats 8000000 in
theorem made_any (d : Dr) (An : Option Addr) (cn : Nat) (Ae : Option Addr) (ce : Nat) (w : World) (hT : DrAt w An cn Ae ce d) :
    Calls Try.prog 33 #[gval An d.ns.length cn Ae d.es.length ce] w fun e w' => (∃ v, e = .returned v ∧ IsG w' v (madeG d)) ∧ Below w.heap.size w w' := by
  obtain ⟨w0, hw0⟩ : ∃ w0, w0 = ((w.alloc (.cells #[.slice An d.ns.length cn, .slice Ae d.es.length ce] 58 (0, 0))).alloc (.cells #[.slice none 0 0, .slice none 0 0] 25 (0, 0))).alloc (.cells #[.slice none 0 0, .slice none 0 0] 25 (0, 0)) := ⟨_, rfl⟩
  obtain ⟨h1, h2, h3, hb0, hs0⟩ := alloc3 w (.cells #[.slice An d.ns.length cn, .slice Ae d.es.length ce] 58 (0, 0)) (.cells #[.slice none 0 0, .slice none 0 0] 25 (0, 0)) (.cells #[.slice none 0 0, .slice none 0 0] 25 (0, 0))
  rw [← hw0] at h1 h2 h3 hb0 hs0
  have HD := Lib.hid (fun W (h : Below (w.heap.size + 2) w0 W) => cell2 ((h.block w.heap.size (by omega)).trans h1))
  have HR := Lib.hid (fun W (h : Below (w.heap.size + 2) w0 W) => (show Blk (w.heap.size + 1) 25 W from ⟨_, _, (h.block (w.heap.size + 1) (by omega)).trans h2⟩))
  have HW := Lib.hid (fun W (h : Below (w.heap.size + 2) w0 W) => hb0.trans (h.mono (by omega)))
  have HZ := Lib.hid (fun W (h : Below (w.heap.size + 2) w0 W) => show w.heap.size + 3 ≤ W.heap.size by have := h.size; omega)
  have HB0 : Hid (BoxIs (w.heap.size + 2) (.slice none 0 0) (.slice none 0 0) 25 w0) := Lib.hid h3
  have HT := Lib.hid hT
  have HS0 := Lib.hid hs0
  obtain ⟨n1, n2⟩ := drN_le d
  obtain ⟨m1, m2⟩ := drM_le d
  have HN : Hid (drN d = min d.ns.length 8) := Lib.hid rfl
  have HM : Hid (drM d = if drN d = 0 then 0 else min d.es.length 10) := Lib.hid rfl
  have HNL := Lib.hid (nsT_len d)
  have HEL := Lib.hid (esT_len d)
  have HNS : Hid (∀ k, nsT d (k + 1) = nsT d k ++ [ndM d k]) := Lib.hid fun k => rfl
  have HES : Hid (∀ k, esT d (k + 1) = esT d k ++ [edM d k]) := Lib.hid fun k => rfl
  have HN0 : Hid (nsT d 0 = []) := Lib.hid rfl
  have HE0 : Hid (esT d 0 = []) := Lib.hid rfl
  have HMG : Hid (madeG d = ⟨nsT d (drN d), esT d (drM d)⟩) := Lib.hid rfl
  have HOK := Lib.hid hT.ok
  have lc1 := hT.cn
  have lc2 := hT.ce
  unfold maxLen at lc1 lc2
  clear hT h1 h2 h3 hb0 hs0
  go_enter Try.func33, Try.ntmps33
  go_wp2_with fail
  rw [← hw0]
  clear hw0
  go_loopw [4] (fun vi wr => ∃ (i : Nat) (va : Value), i ≤ drN d ∧ vi = .int .i64 i ∧ BoxIs (w.heap.size + 2) va (.slice none 0 0) 25 wr ∧ OwnI wr (w.heap.size + 3) va (nsT d i) ∧ Below (w.heap.size + 2) w0 wr) (fun vi _ => drN d - (intOf vi).toNat)
  case atStart => exact ⟨0, _, Nat.zero_le _, rfl, HB0.out, by rw [HN0.out]; exact OwnE.nil _ _ _, Below.refl _ _⟩
  case round =>
    clear HB0
    obtain ⟨i, va, hi, rfl, hbl, hown, hbel⟩ := hrel
    have HG := Lib.hid hbel
    have HBL := Lib.hid hbl
    obtain ⟨aa, ca, rfl⟩ := OwnE.slice hown
    have HO := Lib.hid hown
    have hzr := HZ.out _ hbel
    obtain ⟨c0, c1⟩ := HD.out _ hbel
    clear hbl hown hbel
    have y0 : w.heap.size < wr.heap.size := by omega
    by_cases hlt : i < drN d
    · have hn := HN.out
      have t1 : decide (i < d.ns.length) = true := decide_eq_true (by omega)
      have t2 : decide ((i : Int) < 8) = true := decide_eq_true (by omega)
      obtain ⟨bb, off, rfl, hbb, hc⟩ := byte_at (Reads.below HT.out.ns (HW.out _ HG.out)) (k := i) (by omega)
      have hx := HOK.out.1 i
      have hle : (nsT d i).length ≤ 8 := by rw [HNL.out]; omega
      have HE2 := Lib.hid (HNS.out i)
      have i0 : (0 : Int) ≤ (i : Int) := by omega
      have i1 : (i : Int) < (d.ns.length : Int) := by omega
      have i2 : ((i : Int)).toNat = i := by omega
      have hbb9 : bb < w.heap.size + 2 := by omega
      have hnd : ndM d i = ((d.ns.getD i 0 : Nat) : Int) % 3 := by unfold ndM; omega
      rw [hnd] at HE2
      clear hn hnd
      generalize d.ns.getD i 0 = x at *
      have m1 := Int.emod_nonneg (x : Int) (show (3 : Int) ≠ 0 by omega)
      have m2 := Int.emod_lt_of_pos (x : Int) (show (0 : Int) < 3 by omega)
      have hmt : Int.tmod (x : Int) 3 = (x : Int) % 3 := Int.tmod_eq_emod_of_nonneg (by omega)
      generalize (x : Int) % 3 = m at *
      have hmw : IntKind.i64.wrap m = m := IntWalk.i64_in _ (by omega)
      have HS := Lib.hid (fun W (h : Below (w.heap.size + 2) w0 W) => show SM w (.slice (some ⟨bb, off, none⟩) d.ns.length cn) (.slice Ae d.es.length ce) w0 bb (off + i) (.int .u8 (x : Int)) W from ⟨⟨HD.out W h, by
        have e1 := HG.out.cell (p := ⟨bb, off + i, none⟩) hbb9
        have e2 := h.cell (p := ⟨bb, off + i, none⟩) hbb9
        rw [e2, ← e1]; exact hc⟩, h⟩)
      clear hc
      go_wp2_with fail
      clear t1 t2 c0 c1
      refine wp_region_noPanic ?_
      refine wp_region_held_drew (S := SM w (.slice (some ⟨bb, off, none⟩) d.ns.length cn) (.slice Ae d.es.length ce) w0 bb (off + i) (.int .u8 (x : Int))) (by kernel_rfl) (HS.out _ (HG.out.drew)) (fun hHeld => ?_)
      refine wpAnyH_take (i := 0) (v := ?_) (op_at (r := _) rfl) (by kernel_rfl) (by kernel_rfl) (by kernel_rfl) (fun _ _ _ h => h) (Or.inl ⟨by rfl, ?_⟩) (by assumption) ?_
      rotate_left
      · intro W2 hSw
        obtain ⟨⟨⟨s0, s1⟩, s2⟩, _⟩ := hSw
        go_simp
        try with_reducible rfl
      try simp only [Act.put, List.setIfInBounds_toArray, List.set_cons_zero, List.set_cons_succ]
      refine wpAnyH_take (i := 2) (v := ?_) (op_at (r := _) rfl) (by kernel_rfl) (by kernel_rfl) (by kernel_rfl) (fun _ _ _ h => h) (Or.inl ⟨by rfl, ?_⟩) (by assumption) ?_
      rotate_left
      · intro W2 hSw
        obtain ⟨⟨⟨s0, s1⟩, s2⟩, _⟩ := hSw
        go_simp
        try with_reducible rfl
      try simp only [Act.put, List.setIfInBounds_toArray, List.set_cons_zero, List.set_cons_succ]
      refine wpAnyH_take (i := 4) (v := ?_) (op_at (r := _) rfl) (by kernel_rfl) (by kernel_rfl) (by kernel_rfl) (fun _ _ _ h => h) (Or.inl ⟨by rfl, ?_⟩) (by assumption) ?_
      rotate_left
      · intro W2 hSw
        obtain ⟨⟨⟨s0, s1⟩, s2⟩, _⟩ := hSw
        go_simp
        try with_reducible rfl
      try simp only [Act.put, List.setIfInBounds_toArray, List.set_cons_zero, List.set_cons_succ]
      refine wpAnyH_take (i := 3) (v := ?_) (op_at (r := _) rfl) (by kernel_rfl) (by kernel_rfl) (by kernel_rfl) (fun _ _ _ h => h) (Or.inl ⟨by rfl, ?_⟩) (by assumption) ?_
      rotate_left
      · intro W2 hSw
        obtain ⟨⟨⟨s0, s1⟩, s2⟩, _⟩ := hSw
        go_simp
        try with_reducible rfl
      try simp only [Act.put, List.setIfInBounds_toArray, List.set_cons_zero, List.set_cons_succ]
      refine wpAnyH_take (i := 5) (v := ?_) (op_at (r := _) rfl) (by kernel_rfl) (by kernel_rfl) (by kernel_rfl) (fun _ _ _ h => h) (Or.inl ⟨by rfl, ?_⟩) (by assumption) ?_
      rotate_left
      · intro W2 hSw
        obtain ⟨⟨⟨s0, s1⟩, s2⟩, _⟩ := hSw
        go_simp
        try with_reducible rfl
      try simp only [Act.put, List.setIfInBounds_toArray, List.set_cons_zero, List.set_cons_succ]
      refine wpAnyH_take (i := 6) (v := ?_) (op_at (r := _) rfl) (by kernel_rfl) (by kernel_rfl) (by kernel_rfl) (fun _ _ _ h => h) (Or.inl ⟨by rfl, ?_⟩) (by assumption) ?_
      rotate_left
      · intro W2 hSw
        obtain ⟨⟨⟨s0, s1⟩, s2⟩, _⟩ := hSw
        go_simp
        try with_reducible rfl
      try simp only [Act.put, List.setIfInBounds_toArray, List.set_cons_zero, List.set_cons_succ]
      refine wpAnyH_take (i := 7) (v := ?_) (op_at (r := _) rfl) (by kernel_rfl) (by kernel_rfl) (by kernel_rfl) (fun _ _ _ h => h) (Or.inl ⟨by rfl, ?_⟩) (by assumption) ?_
      rotate_left
      · intro W2 hSw
        obtain ⟨⟨⟨s0, s1⟩, s2⟩, _⟩ := hSw
        go_simp
        try with_reducible rfl
      try simp only [Act.put, List.setIfInBounds_toArray, List.set_cons_zero, List.set_cons_succ]
      refine wpAnyH_take (i := 8) (v := ?_) (op_at (r := _) rfl) (by kernel_rfl) (by kernel_rfl) (by kernel_rfl) (fun _ _ _ h => h) (Or.inl ⟨by rfl, ?_⟩) (by assumption) ?_
      rotate_left
      · intro W2 hSw
        obtain ⟨⟨⟨s0, s1⟩, s2⟩, _⟩ := hSw
        go_simp
        try with_reducible rfl
      try simp only [Act.put, List.setIfInBounds_toArray, List.set_cons_zero, List.set_cons_succ]
      have hbx := below_ad wr (.cells #[.int .i64 m] 3 (0, 0))
      have HGX := Lib.hid (HG.out.trans (hbx.mono (show w.heap.size + 2 ≤ wr.heap.size by omega)))
      have HBX := Lib.hid (HBL.out.up hbx)
      have HOX := Lib.hid (OwnE.below HO.out hbx (Nat.le_refl _))
      have hnx : (wr.alloc (.cells #[.int .i64 m] 3 (0, 0))).drew.heap[wr.heap.size]? = some (.cells #[.int .i64 m] 3 (0, 0)) := heap_alloc_new wr _
      have HXX := Lib.hid hnx
      have hxs : wr.heap.size < (wr.alloc (.cells #[.int .i64 m] 3 (0, 0))).drew.heap.size := by simp
      have hy3 : w.heap.size + 2 < wr.heap.size := by omega
      obtain ⟨b0, b1⟩ := HBL.out.cells
      clear hbx hnx
      refine wpAnyH_ready (rs := [1, 9]) (by kernel_rfl) (by simp) ?_
      refine AllReadyH.cons (op_at (r := _) rfl) (fun K hK => ?_) (AllReadyH.cons (op_at (r := _) rfl) (fun K hK => ?_) AllReadyH.nil)
      · go_simp
        refine hK.out _ _ (by assumption) (fun hHeld => ?_)
        clear hK K
        try simp only [Act.put, List.setIfInBounds_toArray, List.set_cons_zero, List.set_cons_succ]
        refine wpAnyH_ready (rs := [9]) (by kernel_rfl) (by simp) ?_
        refine AllReadyH.cons (op_at (r := _) rfl) (fun K hK => ?_) AllReadyH.nil
        go_simp
        refine hK.out _ _ (HS.out _ HGX.out) (fun hHeld => ?_)
        clear hK K
        try simp only [Act.put, List.setIfInBounds_toArray, List.set_cons_zero, List.set_cons_succ]
        generalize (wr.alloc (.cells #[.int .i64 m] 3 (0, 0))).drew = wx at *
        refine wpAnyH_ready (rs := [10]) (by kernel_rfl) (by simp) ?_
        refine AllReadyH.cons (op_at (r := _) rfl) (fun K hK => ?_) AllReadyH.nil
        refine step_append_G (E := EInt) (by rfl) _ _ 22 3 (by rfl) Try.underlying22 infoInt rfl (by decide) (by decide) (w.heap.size + 3) (.slice aa (nsT d i).length ca) (nsT d i) (by rfl) HOX.out ⟨wr.heap.size, 0, none⟩ 1 m (by rfl) (new_int HXX.out) (by omega) (by omega) ?_
        intro v8 w8 ho8 hg8
        rw [← HE2.out] at ho8
        obtain ⟨a8, c8, rfl⟩ := OwnE.slice ho8
        have HB8 := Lib.hid (HBX.out.grow (by decide) hg8)
        have HO8 := Lib.hid ho8
        have HG8 := Lib.hid (HGX.out.trans (hg8.1.mono (by omega)))
        have hz8 := HZ.out _ HG8.out
        have y8 : w.heap.size + 2 < w8.heap.size := by omega
        clear ho8 hg8 b0 b1
        obtain ⟨b0, b1⟩ := HB8.out.cells
        have bf := HB8.out.free 0
        refine hK.out _ _ (HS.out _ HG8.out) (fun hHeld => ?_)
        clear hK K
        try simp only [Act.put, List.setIfInBounds_toArray, List.set_cons_zero, List.set_cons_succ]
        refine wpAnyH_take (i := 11) (v := ?_) (op_at (r := _) rfl) (by kernel_rfl) (by kernel_rfl) (by kernel_rfl) (fun _ _ _ h => h) (Or.inl ⟨by rfl, ?_⟩) (by assumption) ?_
        rotate_left
        · intro W2 hSw
          obtain ⟨⟨⟨s0, s1⟩, s2⟩, _⟩ := hSw
          go_simp
          try with_reducible rfl
        try simp only [Act.put, List.setIfInBounds_toArray, List.set_cons_zero, List.set_cons_succ]
        refine wpAnyH_ready (rs := [12]) (by kernel_rfl) (by simp) ?_
        refine AllReadyH.cons (op_at (r := _) rfl) (fun K hK => ?_) AllReadyH.nil
        go_simp
        refine hK.out _ _ (HS.out _ (HG8.out.setCell (p := ⟨w.heap.size + 2, 0, none⟩) (Nat.le_refl _) _)) (fun hHeld => ?_)
        clear hK K
        try simp only [Act.put, List.setIfInBounds_toArray, List.set_cons_zero, List.set_cons_succ]
        refine wpAnyH_done (by kernel_rfl) ?_ _
        refine NoPanic.normal ?_
        go_wp2_with fail
        go_roundw
        case rel => exact ⟨i + 1, _, by omega, by go_num, HB8.out.set0 _, OwnE.setBox HO8.out HB8.out (by decide) 0, HG8.out.setCell (p := ⟨w.heap.size + 2, 0, none⟩) (Nat.le_refl _) _⟩
        case measure => simp [intOf]; omega
      · go_simp
        refine hK.out _ _ (HS.out _ HGX.out) (fun hHeld => ?_)
        clear hK K
        try simp only [Act.put, List.setIfInBounds_toArray, List.set_cons_zero, List.set_cons_succ]
        refine wpAnyH_ready (rs := [1]) (by kernel_rfl) (by simp) ?_
        refine AllReadyH.cons (op_at (r := _) rfl) (fun K hK => ?_) AllReadyH.nil
        go_simp
        refine hK.out _ _ (by assumption) (fun hHeld => ?_)
        clear hK K
        try simp only [Act.put, List.setIfInBounds_toArray, List.set_cons_zero, List.set_cons_succ]
        generalize (wr.alloc (.cells #[.int .i64 m] 3 (0, 0))).drew = wx at *
        refine wpAnyH_ready (rs := [10]) (by kernel_rfl) (by simp) ?_
        refine AllReadyH.cons (op_at (r := _) rfl) (fun K hK => ?_) AllReadyH.nil
        refine step_append_G (E := EInt) (by rfl) _ _ 22 3 (by rfl) Try.underlying22 infoInt rfl (by decide) (by decide) (w.heap.size + 3) (.slice aa (nsT d i).length ca) (nsT d i) (by rfl) HOX.out ⟨wr.heap.size, 0, none⟩ 1 m (by rfl) (new_int HXX.out) (by omega) (by omega) ?_
        intro v8 w8 ho8 hg8
        rw [← HE2.out] at ho8
        obtain ⟨a8, c8, rfl⟩ := OwnE.slice ho8
        have HB8 := Lib.hid (HBX.out.grow (by decide) hg8)
        have HO8 := Lib.hid ho8
        have HG8 := Lib.hid (HGX.out.trans (hg8.1.mono (by omega)))
        have hz8 := HZ.out _ HG8.out
        have y8 : w.heap.size + 2 < w8.heap.size := by omega
        clear ho8 hg8 b0 b1
        obtain ⟨b0, b1⟩ := HB8.out.cells
        have bf := HB8.out.free 0
        refine hK.out _ _ (HS.out _ HG8.out) (fun hHeld => ?_)
        clear hK K
        try simp only [Act.put, List.setIfInBounds_toArray, List.set_cons_zero, List.set_cons_succ]
        refine wpAnyH_take (i := 11) (v := ?_) (op_at (r := _) rfl) (by kernel_rfl) (by kernel_rfl) (by kernel_rfl) (fun _ _ _ h => h) (Or.inl ⟨by rfl, ?_⟩) (by assumption) ?_
        rotate_left
        · intro W2 hSw
          obtain ⟨⟨⟨s0, s1⟩, s2⟩, _⟩ := hSw
          go_simp
          try with_reducible rfl
        try simp only [Act.put, List.setIfInBounds_toArray, List.set_cons_zero, List.set_cons_succ]
        refine wpAnyH_ready (rs := [12]) (by kernel_rfl) (by simp) ?_
        refine AllReadyH.cons (op_at (r := _) rfl) (fun K hK => ?_) AllReadyH.nil
        go_simp
        refine hK.out _ _ (HS.out _ (HG8.out.setCell (p := ⟨w.heap.size + 2, 0, none⟩) (Nat.le_refl _) _)) (fun hHeld => ?_)
        clear hK K
        try simp only [Act.put, List.setIfInBounds_toArray, List.set_cons_zero, List.set_cons_succ]
        refine wpAnyH_done (by kernel_rfl) ?_ _
        refine NoPanic.normal ?_
        go_wp2_with fail
        go_roundw
        case rel => exact ⟨i + 1, _, by omega, by go_num, HB8.out.set0 _, OwnE.setBox HO8.out HB8.out (by decide) 0, HG8.out.setCell (p := ⟨w.heap.size + 2, 0, none⟩) (Nat.le_refl _) _⟩
        case measure => simp [intOf]; omega
    · have e : i = drN d := by omega
      subst e
      have hd : decide (drN d < d.ns.length) = false ∨ (decide (drN d < d.ns.length) = true ∧ decide ((drN d : Int) < 8) = false) := by
        have hn := HN.out
        by_cases h : drN d < d.ns.length
        · exact .inr ⟨decide_eq_true h, decide_eq_false (by omega)⟩
        · exact .inl (decide_eq_false h)
      go_upto_region 3 with (fail)
      go_cut [15] (fun u wx => u = .bool false ∧ wx = wr)
      case first =>
        rcases hd with t1 | ⟨t1, t2⟩
        all_goals
          go_wp2_with fail
          go_meet
          exact ⟨rfl, rfl⟩
      case rest =>
        obtain ⟨rfl, rfl⟩ := hcut
        clear hd c0 c1 y0 hlt hi
        obtain ⟨nn, hnn⟩ : ∃ nn, nn = nsT d (drN d) := ⟨_, rfl⟩
        rw [← hnn] at HO HBL HMG
        have HNN := Lib.hid (show nn.length = drN d by rw [hnn]; exact HNL.out _)
        have l8 : nn.length ≤ 8 := by rw [HNN.out]; omega
        clear hnn HNS HN0 HNL
        obtain ⟨b0, b1⟩ := HBL.out.cells
        have y2 : w.heap.size + 2 < wc.heap.size := by omega
        go_wp2_with fail
        clear b0 b1 y2 hzr
        go_loopw [6] (fun vi wr => ∃ (j : Nat) (vb : Value), j ≤ drM d ∧ vi = .int .i64 j ∧ BoxIs (w.heap.size + 2) (.slice aa nn.length ca) vb 25 wr ∧ OwnI wr (w.heap.size + 3) (.slice aa nn.length ca) nn ∧ OwnEd wr (w.heap.size + 3) vb (esT d j) ∧ Below (w.heap.size + 2) w0 wr) (fun vi _ => drM d - (intOf vi).toNat)
        case atStart => exact ⟨0, _, Nat.zero_le _, rfl, HBL.out, HO.out, by rw [HE0.out]; exact OwnE.nil _ _ _, HG.out⟩
        case round =>
          clear HBL HO HG
          obtain ⟨j, vb, hj, rfl, hbl, hownN, hown, hbel⟩ := hrel
          have HG := Lib.hid hbel
          have HBL := Lib.hid hbl
          obtain ⟨ab, cb, rfl⟩ := OwnE.slice hown
          have HO := Lib.hid hown
          have HON := Lib.hid hownN
          have hzr := HZ.out _ hbel
          obtain ⟨c0, c1⟩ := HD.out _ hbel
          clear hbl hown hownN hbel
          have y0 : w.heap.size < wr.heap.size := by omega
          by_cases hlt : j < drM d
          · have hn := HM.out
            have hnp : 0 < nn.length := by
              rw [HNN.out]
              rcases Nat.eq_zero_or_pos (drN d) with h | h
              · rw [if_pos h] at hn; omega
              · exact h
            have hn0 : drN d ≠ 0 := by rw [← HNN.out]; omega
            rw [if_neg hn0] at hn
            have t1 : decide (j < d.es.length) = true := decide_eq_true (by omega)
            have t2 : decide ((j : Int) < 10) = true := decide_eq_true (by omega)
            obtain ⟨bb, off, rfl, hbb, hc0, hc1, hc2⟩ := b3_at (Reads.below HT.out.es (HW.out _ HG.out)) (k := j) (by omega)
            have hle : (esT d j).length ≤ 10 := by rw [HEL.out]; omega
            have HE2 := Lib.hid (HES.out j)
            have i0 : (0 : Int) ≤ (j : Int) := by omega
            have i1 : (j : Int) < (d.es.length : Int) := by omega
            have i2 : ((j : Int)).toNat = j := by omega
            have hbb9 : bb < w.heap.size + 2 := by omega
            obtain ⟨x0, x1, x2⟩ := HOK.out.2 j
            have hed : edM d j = ⟨((d.es.getD j (0, 0, 0)).1 : Int) % 2, ((d.es.getD j (0, 0, 0)).2.1 : Int) % (nn.length : Int), ((d.es.getD j (0, 0, 0)).2.2 : Int) % (nn.length : Int)⟩ := by
              unfold edM
              rw [HNN.out]
              simp
            rw [hed] at HE2
            clear hn hed hn0
            generalize d.es.getD j (0, 0, 0) = x at *
            obtain ⟨q0, q1, q2⟩ := x
            dsimp only at hc0 hc1 hc2 x0 x1 x2 HE2
            have hm0 : Int.tmod (q0 : Int) 2 = (q0 : Int) % 2 := Int.tmod_eq_emod_of_nonneg (by omega)
            have hm1 : Int.tmod (q1 : Int) (nn.length : Int) = (q1 : Int) % (nn.length : Int) := Int.tmod_eq_emod_of_nonneg (by omega)
            have hm2 : Int.tmod (q2 : Int) (nn.length : Int) = (q2 : Int) % (nn.length : Int) := Int.tmod_eq_emod_of_nonneg (by omega)
            have a0 := Int.emod_nonneg (q0 : Int) (show (2 : Int) ≠ 0 by omega)
            have a1 := Int.emod_lt_of_pos (q0 : Int) (show (0 : Int) < 2 by omega)
            generalize (q0 : Int) % 2 = e0 at *
            generalize (q1 : Int) % (nn.length : Int) = e1 at *
            generalize (q2 : Int) % (nn.length : Int) = e2 at *
            have hw0 : IntKind.i64.wrap e0 = e0 := IntWalk.i64_in _ (by omega)
            have hw1 : IntKind.i64.wrap (q1 : Int) = (q1 : Int) := IntWalk.i64_in _ (by omega)
            have hw2 : IntKind.i64.wrap (q2 : Int) = (q2 : Int) := IntWalk.i64_in _ (by omega)
            have HS := Lib.hid (fun W (h : Below (w.heap.size + 2) w0 W) => show SM3 w (.slice An d.ns.length cn) (.slice (some ⟨bb, off, none⟩) d.es.length ce) w0 bb (off + j * 3) (.int .u8 (q0 : Int)) (.int .u8 (q1 : Int)) (.int .u8 (q2 : Int)) W from ⟨⟨HD.out W h, by
              have g1 := HG.out.cell (p := ⟨bb, off + j * 3, none⟩) hbb9
              have g2 := h.cell (p := ⟨bb, off + j * 3, none⟩) hbb9
              rw [g2, ← g1]; exact hc0, by
              have g1 := HG.out.cell (p := ⟨bb, off + j * 3 + 1, none⟩) hbb9
              have g2 := h.cell (p := ⟨bb, off + j * 3 + 1, none⟩) hbb9
              rw [g2, ← g1]; exact hc1, by
              have g1 := HG.out.cell (p := ⟨bb, off + j * 3 + 2, none⟩) hbb9
              have g2 := h.cell (p := ⟨bb, off + j * 3 + 2, none⟩) hbb9
              rw [g2, ← g1]; exact hc2⟩, h⟩)
            clear hc0 hc1 hc2
            have hne : ¬ nn = [] := fun e => by rw [e] at hnp; simp at hnp
            go_wp2_with fail
            clear t1 t2 c0 c1
            refine wp_region_noPanic ?_
            refine wp_region_held_drew (S := SM3 w (.slice An d.ns.length cn) (.slice (some ⟨bb, off, none⟩) d.es.length ce) w0 bb (off + j * 3) (.int .u8 (q0 : Int)) (.int .u8 (q1 : Int)) (.int .u8 (q2 : Int))) (by kernel_rfl) (HS.out _ (HG.out.drew)) (fun hHeld => ?_)
            refine wpAnyH_take (i := 0) (v := ?_) (op_at (r := _) rfl) (by kernel_rfl) (by kernel_rfl) (by kernel_rfl) (fun _ _ _ h => h) (Or.inl ⟨by rfl, ?_⟩) (by assumption) ?_
            rotate_left
            · intro W2 hSw
              obtain ⟨⟨⟨s0, s1⟩, s2, s3, s4⟩, _⟩ := hSw
              go_simp
              try with_reducible rfl
            try simp only [Act.put, List.setIfInBounds_toArray, List.set_cons_zero, List.set_cons_succ]
            refine wpAnyH_take (i := 2) (v := ?_) (op_at (r := _) rfl) (by kernel_rfl) (by kernel_rfl) (by kernel_rfl) (fun _ _ _ h => h) (Or.inl ⟨by rfl, ?_⟩) (by assumption) ?_
            rotate_left
            · intro W2 hSw
              obtain ⟨⟨⟨s0, s1⟩, s2, s3, s4⟩, _⟩ := hSw
              go_simp
              try with_reducible rfl
            try simp only [Act.put, List.setIfInBounds_toArray, List.set_cons_zero, List.set_cons_succ]
            refine wpAnyH_take (i := 4) (v := ?_) (op_at (r := _) rfl) (by kernel_rfl) (by kernel_rfl) (by kernel_rfl) (fun _ _ _ h => h) (Or.inl ⟨by rfl, ?_⟩) (by assumption) ?_
            rotate_left
            · intro W2 hSw
              obtain ⟨⟨⟨s0, s1⟩, s2, s3, s4⟩, _⟩ := hSw
              go_simp
              try with_reducible rfl
            try simp only [Act.put, List.setIfInBounds_toArray, List.set_cons_zero, List.set_cons_succ]
            refine wpAnyH_take (i := 3) (v := ?_) (op_at (r := _) rfl) (by kernel_rfl) (by kernel_rfl) (by kernel_rfl) (fun _ _ _ h => h) (Or.inl ⟨by rfl, ?_⟩) (by assumption) ?_
            rotate_left
            · intro W2 hSw
              obtain ⟨⟨⟨s0, s1⟩, s2, s3, s4⟩, _⟩ := hSw
              go_simp
              try with_reducible rfl
            try simp only [Act.put, List.setIfInBounds_toArray, List.set_cons_zero, List.set_cons_succ]
            refine wpAnyH_take (i := 5) (v := ?_) (op_at (r := _) rfl) (by kernel_rfl) (by kernel_rfl) (by kernel_rfl) (fun _ _ _ h => h) (Or.inl ⟨by rfl, ?_⟩) (by assumption) ?_
            rotate_left
            · intro W2 hSw
              obtain ⟨⟨⟨s0, s1⟩, s2, s3, s4⟩, _⟩ := hSw
              go_simp
              try with_reducible rfl
            try simp only [Act.put, List.setIfInBounds_toArray, List.set_cons_zero, List.set_cons_succ]
            refine wpAnyH_take (i := 6) (v := ?_) (op_at (r := _) rfl) (by kernel_rfl) (by kernel_rfl) (by kernel_rfl) (fun _ _ _ h => h) (Or.inl ⟨by rfl, ?_⟩) (by assumption) ?_
            rotate_left
            · intro W2 hSw
              obtain ⟨⟨⟨s0, s1⟩, s2, s3, s4⟩, _⟩ := hSw
              go_simp
              try with_reducible rfl
            try simp only [Act.put, List.setIfInBounds_toArray, List.set_cons_zero, List.set_cons_succ]
            refine wpAnyH_take (i := 7) (v := ?_) (op_at (r := _) rfl) (by kernel_rfl) (by kernel_rfl) (by kernel_rfl) (fun _ _ _ h => h) (Or.inl ⟨by rfl, ?_⟩) (by assumption) ?_
            rotate_left
            · intro W2 hSw
              obtain ⟨⟨⟨s0, s1⟩, s2, s3, s4⟩, _⟩ := hSw
              go_simp
              try with_reducible rfl
            try simp only [Act.put, List.setIfInBounds_toArray, List.set_cons_zero, List.set_cons_succ]
            refine wpAnyH_take (i := 8) (v := ?_) (op_at (r := _) rfl) (by kernel_rfl) (by kernel_rfl) (by kernel_rfl) (fun _ _ _ h => h) (Or.inl ⟨by rfl, ?_⟩) (by assumption) ?_
            rotate_left
            · intro W2 hSw
              obtain ⟨⟨⟨s0, s1⟩, s2, s3, s4⟩, _⟩ := hSw
              go_simp
              try with_reducible rfl
            try simp only [Act.put, List.setIfInBounds_toArray, List.set_cons_zero, List.set_cons_succ]
            refine wpAnyH_take (i := 9) (v := ?_) (op_at (r := _) rfl) (by kernel_rfl) (by kernel_rfl) (by kernel_rfl) (fun _ _ _ h => h) (Or.inl ⟨by rfl, ?_⟩) (by assumption) ?_
            rotate_left
            · intro W2 hSw
              obtain ⟨⟨⟨s0, s1⟩, s2, s3, s4⟩, _⟩ := hSw
              go_simp
              try with_reducible rfl
            try simp only [Act.put, List.setIfInBounds_toArray, List.set_cons_zero, List.set_cons_succ]
            refine wpAnyH_take (i := 10) (v := ?_) (op_at (r := _) rfl) (by kernel_rfl) (by kernel_rfl) (by kernel_rfl) (fun _ _ _ h => h) (Or.inl ⟨by rfl, ?_⟩) (by assumption) ?_
            rotate_left
            · intro W2 hSw
              obtain ⟨⟨⟨s0, s1⟩, s2, s3, s4⟩, _⟩ := hSw
              go_simp
              try with_reducible rfl
            try simp only [Act.put, List.setIfInBounds_toArray, List.set_cons_zero, List.set_cons_succ]
            refine wpAnyH_take (i := 12) (v := ?_) (op_at (r := _) rfl) (by kernel_rfl) (by kernel_rfl) (by kernel_rfl) (fun _ _ _ h => h) (Or.inl ⟨by rfl, ?_⟩) (by assumption) ?_
            rotate_left
            · intro W2 hSw
              obtain ⟨⟨⟨s0, s1⟩, s2, s3, s4⟩, _⟩ := hSw
              go_simp
              try with_reducible rfl
            try simp only [Act.put, List.setIfInBounds_toArray, List.set_cons_zero, List.set_cons_succ]
            refine wpAnyH_take (i := 11) (v := ?_) (op_at (r := _) rfl) (by kernel_rfl) (by kernel_rfl) (by kernel_rfl) (fun _ _ _ h => h) (Or.inl ⟨by rfl, ?_⟩) (by assumption) ?_
            rotate_left
            · intro W2 hSw
              obtain ⟨⟨⟨s0, s1⟩, s2, s3, s4⟩, _⟩ := hSw
              go_simp
              try with_reducible rfl
            try simp only [Act.put, List.setIfInBounds_toArray, List.set_cons_zero, List.set_cons_succ]
            refine wpAnyH_take (i := 13) (v := ?_) (op_at (r := _) rfl) (by kernel_rfl) (by kernel_rfl) (by kernel_rfl) (fun _ _ _ h => h) (Or.inl ⟨by rfl, ?_⟩) (by assumption) ?_
            rotate_left
            · intro W2 hSw
              obtain ⟨⟨⟨s0, s1⟩, s2, s3, s4⟩, _⟩ := hSw
              go_simp
              try with_reducible rfl
            try simp only [Act.put, List.setIfInBounds_toArray, List.set_cons_zero, List.set_cons_succ]
            refine wpAnyH_take (i := 14) (v := ?_) (op_at (r := _) rfl) (by kernel_rfl) (by kernel_rfl) (by kernel_rfl) (fun _ _ _ h => h) (Or.inl ⟨by rfl, ?_⟩) (by assumption) ?_
            rotate_left
            · intro W2 hSw
              obtain ⟨⟨⟨s0, s1⟩, s2, s3, s4⟩, _⟩ := hSw
              go_simp
              try with_reducible rfl
            try simp only [Act.put, List.setIfInBounds_toArray, List.set_cons_zero, List.set_cons_succ]
            refine wpAnyH_take (i := 15) (v := ?_) (op_at (r := _) rfl) (by kernel_rfl) (by kernel_rfl) (by kernel_rfl) (fun _ _ _ h => h) (Or.inl ⟨by rfl, ?_⟩) (by assumption) ?_
            rotate_left
            · intro W2 hSw
              obtain ⟨⟨⟨s0, s1⟩, s2, s3, s4⟩, _⟩ := hSw
              go_simp
              try with_reducible rfl
            try simp only [Act.put, List.setIfInBounds_toArray, List.set_cons_zero, List.set_cons_succ]
            refine wpAnyH_take (i := 16) (v := ?_) (op_at (r := _) rfl) (by kernel_rfl) (by kernel_rfl) (by kernel_rfl) (fun _ _ _ h => h) (Or.inl ⟨by rfl, ?_⟩) (by assumption) ?_
            rotate_left
            · intro W2 hSw
              obtain ⟨⟨⟨s0, s1⟩, s2, s3, s4⟩, _⟩ := hSw
              go_simp
              try with_reducible rfl
            try simp only [Act.put, List.setIfInBounds_toArray, List.set_cons_zero, List.set_cons_succ]
            refine wpAnyH_take (i := 17) (v := ?_) (op_at (r := _) rfl) (by kernel_rfl) (by kernel_rfl) (by kernel_rfl) (fun _ _ _ h => h) (Or.inl ⟨by rfl, ?_⟩) (by assumption) ?_
            rotate_left
            · intro W2 hSw
              obtain ⟨⟨⟨s0, s1⟩, s2, s3, s4⟩, _⟩ := hSw
              go_simp
              try with_reducible rfl
            try simp only [Act.put, List.setIfInBounds_toArray, List.set_cons_zero, List.set_cons_succ]
            refine wpAnyH_take (i := 18) (v := ?_) (op_at (r := _) rfl) (by kernel_rfl) (by kernel_rfl) (by kernel_rfl) (fun _ _ _ h => h) (Or.inl ⟨by rfl, ?_⟩) (by assumption) ?_
            rotate_left
            · intro W2 hSw
              obtain ⟨⟨⟨s0, s1⟩, s2, s3, s4⟩, _⟩ := hSw
              go_simp
              try with_reducible rfl
            try simp only [Act.put, List.setIfInBounds_toArray, List.set_cons_zero, List.set_cons_succ]
            refine wpAnyH_take (i := 19) (v := ?_) (op_at (r := _) rfl) (by kernel_rfl) (by kernel_rfl) (by kernel_rfl) (fun _ _ _ h => h) (Or.inl ⟨by rfl, ?_⟩) (by assumption) ?_
            rotate_left
            · intro W2 hSw
              obtain ⟨⟨⟨s0, s1⟩, s2, s3, s4⟩, _⟩ := hSw
              go_simp
              try with_reducible rfl
            try simp only [Act.put, List.setIfInBounds_toArray, List.set_cons_zero, List.set_cons_succ]
            refine wpAnyH_take (i := 21) (v := ?_) (op_at (r := _) rfl) (by kernel_rfl) (by kernel_rfl) (by kernel_rfl) (fun _ _ _ h => h) (Or.inl ⟨by rfl, ?_⟩) (by assumption) ?_
            rotate_left
            · intro W2 hSw
              obtain ⟨⟨⟨s0, s1⟩, s2, s3, s4⟩, _⟩ := hSw
              go_simp
              try with_reducible rfl
            try simp only [Act.put, List.setIfInBounds_toArray, List.set_cons_zero, List.set_cons_succ]
            refine wpAnyH_take (i := 20) (v := ?_) (op_at (r := _) rfl) (by kernel_rfl) (by kernel_rfl) (by kernel_rfl) (fun _ _ _ h => h) (Or.inl ⟨by rfl, ?_⟩) (by assumption) ?_
            rotate_left
            · intro W2 hSw
              obtain ⟨⟨⟨s0, s1⟩, s2, s3, s4⟩, _⟩ := hSw
              go_simp
              try with_reducible rfl
            try simp only [Act.put, List.setIfInBounds_toArray, List.set_cons_zero, List.set_cons_succ]
            refine wpAnyH_take (i := 22) (v := ?_) (op_at (r := _) rfl) (by kernel_rfl) (by kernel_rfl) (by kernel_rfl) (fun _ _ _ h => h) (Or.inl ⟨by rfl, ?_⟩) (by assumption) ?_
            rotate_left
            · intro W2 hSw
              obtain ⟨⟨⟨s0, s1⟩, s2, s3, s4⟩, _⟩ := hSw
              go_simp
              try with_reducible rfl
            try simp only [Act.put, List.setIfInBounds_toArray, List.set_cons_zero, List.set_cons_succ]
            refine wpAnyH_take (i := 23) (v := ?_) (op_at (r := _) rfl) (by kernel_rfl) (by kernel_rfl) (by kernel_rfl) (fun _ _ _ h => h) (Or.inl ⟨by rfl, ?_⟩) (by assumption) ?_
            rotate_left
            · intro W2 hSw
              obtain ⟨⟨⟨s0, s1⟩, s2, s3, s4⟩, _⟩ := hSw
              go_simp
              try with_reducible rfl
            try simp only [Act.put, List.setIfInBounds_toArray, List.set_cons_zero, List.set_cons_succ]
            refine wpAnyH_take (i := 24) (v := ?_) (op_at (r := _) rfl) (by kernel_rfl) (by kernel_rfl) (by kernel_rfl) (fun _ _ _ h => h) (Or.inl ⟨by rfl, ?_⟩) (by assumption) ?_
            rotate_left
            · intro W2 hSw
              obtain ⟨⟨⟨s0, s1⟩, s2, s3, s4⟩, _⟩ := hSw
              go_simp
              try with_reducible rfl
            try simp only [Act.put, List.setIfInBounds_toArray, List.set_cons_zero, List.set_cons_succ]
            refine wpAnyH_take (i := 25) (v := ?_) (op_at (r := _) rfl) (by kernel_rfl) (by kernel_rfl) (by kernel_rfl) (fun _ _ _ h => h) (Or.inl ⟨by rfl, ?_⟩) (by assumption) ?_
            rotate_left
            · intro W2 hSw
              obtain ⟨⟨⟨s0, s1⟩, s2, s3, s4⟩, _⟩ := hSw
              go_simp
              try with_reducible rfl
            try simp only [Act.put, List.setIfInBounds_toArray, List.set_cons_zero, List.set_cons_succ]
            refine wpAnyH_take (i := 26) (v := ?_) (op_at (r := _) rfl) (by kernel_rfl) (by kernel_rfl) (by kernel_rfl) (fun _ _ _ h => h) (Or.inl ⟨by rfl, ?_⟩) (by assumption) ?_
            rotate_left
            · intro W2 hSw
              obtain ⟨⟨⟨s0, s1⟩, s2, s3, s4⟩, _⟩ := hSw
              go_simp
              try with_reducible rfl
            try simp only [Act.put, List.setIfInBounds_toArray, List.set_cons_zero, List.set_cons_succ]
            refine wpAnyH_take (i := 27) (v := ?_) (op_at (r := _) rfl) (by kernel_rfl) (by kernel_rfl) (by kernel_rfl) (fun _ _ _ h => h) (Or.inl ⟨by rfl, ?_⟩) (by assumption) ?_
            rotate_left
            · intro W2 hSw
              obtain ⟨⟨⟨s0, s1⟩, s2, s3, s4⟩, _⟩ := hSw
              go_simp
              try with_reducible rfl
            try simp only [Act.put, List.setIfInBounds_toArray, List.set_cons_zero, List.set_cons_succ]
            refine wpAnyH_take (i := 28) (v := ?_) (op_at (r := _) rfl) (by kernel_rfl) (by kernel_rfl) (by kernel_rfl) (fun _ _ _ h => h) (Or.inl ⟨by rfl, ?_⟩) (by assumption) ?_
            rotate_left
            · intro W2 hSw
              obtain ⟨⟨⟨s0, s1⟩, s2, s3, s4⟩, _⟩ := hSw
              go_simp
              try with_reducible rfl
            try simp only [Act.put, List.setIfInBounds_toArray, List.set_cons_zero, List.set_cons_succ]
            have hbx := below_ad wr (.cells #[.int .i64 e0, .int .i64 e1, .int .i64 e2] 36 (0, 0))
            have HGX := Lib.hid (HG.out.trans (hbx.mono (show w.heap.size + 2 ≤ wr.heap.size by omega)))
            have HBX := Lib.hid (HBL.out.up hbx)
            have HOX := Lib.hid (OwnE.below HO.out hbx (Nat.le_refl _))
            have HNX := Lib.hid (OwnE.below HON.out hbx (Nat.le_refl _))
            have hnx : (wr.alloc (.cells #[.int .i64 e0, .int .i64 e1, .int .i64 e2] 36 (0, 0))).drew.heap[wr.heap.size]? = some (.cells #[.int .i64 e0, .int .i64 e1, .int .i64 e2] 36 (0, 0)) := heap_alloc_new wr _
            have HXX := Lib.hid hnx
            have hxs : wr.heap.size < (wr.alloc (.cells #[.int .i64 e0, .int .i64 e1, .int .i64 e2] 36 (0, 0))).drew.heap.size := by simp
            have hy3 : w.heap.size + 2 < wr.heap.size := by omega
            obtain ⟨b0, b1⟩ := HBL.out.cells
            clear hbx hnx
            refine wpAnyH_ready (rs := [1, 29]) (by kernel_rfl) (by simp) ?_
            refine AllReadyH.cons (op_at (r := _) rfl) (fun K hK => ?_) (AllReadyH.cons (op_at (r := _) rfl) (fun K hK => ?_) AllReadyH.nil)
            · go_simp
              refine hK.out _ _ (by assumption) (fun hHeld => ?_)
              clear hK K
              try simp only [Act.put, List.setIfInBounds_toArray, List.set_cons_zero, List.set_cons_succ]
              refine wpAnyH_ready (rs := [29]) (by kernel_rfl) (by simp) ?_
              refine AllReadyH.cons (op_at (r := _) rfl) (fun K hK => ?_) AllReadyH.nil
              go_simp
              refine hK.out _ _ (HS.out _ HGX.out) (fun hHeld => ?_)
              clear hK K
              try simp only [Act.put, List.setIfInBounds_toArray, List.set_cons_zero, List.set_cons_succ]
              generalize (wr.alloc (.cells #[.int .i64 e0, .int .i64 e1, .int .i64 e2] 36 (0, 0))).drew = wx at *
              refine wpAnyH_ready (rs := [30]) (by kernel_rfl) (by simp) ?_
              refine AllReadyH.cons (op_at (r := _) rfl) (fun K hK => ?_) AllReadyH.nil
              refine step_append_G (E := EEd) (by rfl) _ _ 23 36 (by rfl) Try.underlying23 infoEd rfl (by decide) (by decide) (w.heap.size + 3) (.slice ab (esT d j).length cb) (esT d j) (by rfl) HOX.out ⟨wr.heap.size, 0, none⟩ 1 ⟨e0, e1, e2⟩ (by rfl) (new_ed HXX.out) (by omega) (by omega) ?_
              intro v8 w8 ho8 hg8
              rw [← HE2.out] at ho8
              obtain ⟨a8, c8, rfl⟩ := OwnE.slice ho8
              have HB8 := Lib.hid (HBX.out.grow (by decide) hg8)
              have HO8 := Lib.hid ho8
              have HN8 := Lib.hid (hg8.row (by decide) HNX.out)
              have HG8 := Lib.hid (HGX.out.trans (hg8.1.mono (by omega)))
              have hz8 := HZ.out _ HG8.out
              have y8 : w.heap.size + 2 < w8.heap.size := by omega
              clear ho8 hg8 b0 b1
              obtain ⟨b0, b1⟩ := HB8.out.cells
              have bf := HB8.out.free 1
              refine hK.out _ _ (HS.out _ HG8.out) (fun hHeld => ?_)
              clear hK K
              try simp only [Act.put, List.setIfInBounds_toArray, List.set_cons_zero, List.set_cons_succ]
              refine wpAnyH_take (i := 31) (v := ?_) (op_at (r := _) rfl) (by kernel_rfl) (by kernel_rfl) (by kernel_rfl) (fun _ _ _ h => h) (Or.inl ⟨by rfl, ?_⟩) (by assumption) ?_
              rotate_left
              · intro W2 hSw
                obtain ⟨⟨⟨s0, s1⟩, s2, s3, s4⟩, _⟩ := hSw
                go_simp
                try with_reducible rfl
              try simp only [Act.put, List.setIfInBounds_toArray, List.set_cons_zero, List.set_cons_succ]
              refine wpAnyH_ready (rs := [32]) (by kernel_rfl) (by simp) ?_
              refine AllReadyH.cons (op_at (r := _) rfl) (fun K hK => ?_) AllReadyH.nil
              go_simp
              refine hK.out _ _ (HS.out _ (HG8.out.setCell (p := ⟨w.heap.size + 2, 1, none⟩) (Nat.le_refl _) _)) (fun hHeld => ?_)
              clear hK K
              try simp only [Act.put, List.setIfInBounds_toArray, List.set_cons_zero, List.set_cons_succ]
              refine wpAnyH_done (by kernel_rfl) ?_ _
              refine NoPanic.normal ?_
              go_wp2_with fail
              go_roundw
              case rel => exact ⟨j + 1, _, by omega, by go_num, HB8.out.set1 _, OwnE.setBox HN8.out HB8.out (by decide) 1, OwnE.setBox HO8.out HB8.out (by decide) 1, HG8.out.setCell (p := ⟨w.heap.size + 2, 1, none⟩) (Nat.le_refl _) _⟩
              case measure => simp [intOf]; omega
            · go_simp
              refine hK.out _ _ (HS.out _ HGX.out) (fun hHeld => ?_)
              clear hK K
              try simp only [Act.put, List.setIfInBounds_toArray, List.set_cons_zero, List.set_cons_succ]
              refine wpAnyH_ready (rs := [1]) (by kernel_rfl) (by simp) ?_
              refine AllReadyH.cons (op_at (r := _) rfl) (fun K hK => ?_) AllReadyH.nil
              go_simp
              refine hK.out _ _ (by assumption) (fun hHeld => ?_)
              clear hK K
              try simp only [Act.put, List.setIfInBounds_toArray, List.set_cons_zero, List.set_cons_succ]
              generalize (wr.alloc (.cells #[.int .i64 e0, .int .i64 e1, .int .i64 e2] 36 (0, 0))).drew = wx at *
              refine wpAnyH_ready (rs := [30]) (by kernel_rfl) (by simp) ?_
              refine AllReadyH.cons (op_at (r := _) rfl) (fun K hK => ?_) AllReadyH.nil
              refine step_append_G (E := EEd) (by rfl) _ _ 23 36 (by rfl) Try.underlying23 infoEd rfl (by decide) (by decide) (w.heap.size + 3) (.slice ab (esT d j).length cb) (esT d j) (by rfl) HOX.out ⟨wr.heap.size, 0, none⟩ 1 ⟨e0, e1, e2⟩ (by rfl) (new_ed HXX.out) (by omega) (by omega) ?_
              intro v8 w8 ho8 hg8
              rw [← HE2.out] at ho8
              obtain ⟨a8, c8, rfl⟩ := OwnE.slice ho8
              have HB8 := Lib.hid (HBX.out.grow (by decide) hg8)
              have HO8 := Lib.hid ho8
              have HN8 := Lib.hid (hg8.row (by decide) HNX.out)
              have HG8 := Lib.hid (HGX.out.trans (hg8.1.mono (by omega)))
              have hz8 := HZ.out _ HG8.out
              have y8 : w.heap.size + 2 < w8.heap.size := by omega
              clear ho8 hg8 b0 b1
              obtain ⟨b0, b1⟩ := HB8.out.cells
              have bf := HB8.out.free 1
              refine hK.out _ _ (HS.out _ HG8.out) (fun hHeld => ?_)
              clear hK K
              try simp only [Act.put, List.setIfInBounds_toArray, List.set_cons_zero, List.set_cons_succ]
              refine wpAnyH_take (i := 31) (v := ?_) (op_at (r := _) rfl) (by kernel_rfl) (by kernel_rfl) (by kernel_rfl) (fun _ _ _ h => h) (Or.inl ⟨by rfl, ?_⟩) (by assumption) ?_
              rotate_left
              · intro W2 hSw
                obtain ⟨⟨⟨s0, s1⟩, s2, s3, s4⟩, _⟩ := hSw
                go_simp
                try with_reducible rfl
              try simp only [Act.put, List.setIfInBounds_toArray, List.set_cons_zero, List.set_cons_succ]
              refine wpAnyH_ready (rs := [32]) (by kernel_rfl) (by simp) ?_
              refine AllReadyH.cons (op_at (r := _) rfl) (fun K hK => ?_) AllReadyH.nil
              go_simp
              refine hK.out _ _ (HS.out _ (HG8.out.setCell (p := ⟨w.heap.size + 2, 1, none⟩) (Nat.le_refl _) _)) (fun hHeld => ?_)
              clear hK K
              try simp only [Act.put, List.setIfInBounds_toArray, List.set_cons_zero, List.set_cons_succ]
              refine wpAnyH_done (by kernel_rfl) ?_ _
              refine NoPanic.normal ?_
              go_wp2_with fail
              go_roundw
              case rel => exact ⟨j + 1, _, by omega, by go_num, HB8.out.set1 _, OwnE.setBox HN8.out HB8.out (by decide) 1, OwnE.setBox HO8.out HB8.out (by decide) 1, HG8.out.setCell (p := ⟨w.heap.size + 2, 1, none⟩) (Nat.le_refl _) _⟩
              case measure => simp [intOf]; omega
          · have e : j = drM d := by omega
            subst e
            have hn := HM.out
            have hd : decide (drM d < d.es.length) = false ∨ (decide (drM d < d.es.length) = true ∧ decide ((drM d : Int) < 10) = false) ∨ (decide (drM d < d.es.length) = true ∧ decide ((drM d : Int) < 10) = true ∧ nn = []) := by
              by_cases h1 : drM d < d.es.length
              · by_cases h2 : drM d < 10
                · refine .inr (.inr ⟨decide_eq_true h1, decide_eq_true (by omega), List.eq_nil_of_length_eq_zero ?_⟩)
                  rw [HNN.out]
                  rcases Nat.eq_zero_or_pos (drN d) with h | h
                  · exact h
                  · rw [if_neg (by omega)] at hn; omega
                · exact .inr (.inl ⟨decide_eq_true h1, decide_eq_false (by omega)⟩)
              · exact .inl (decide_eq_false h1)
            clear hn
            go_upto_region 8 with (fail)
            go_cut [45] (fun u wx => u = .bool false ∧ wx = wr)
            case first =>
              rcases hd with t1 | ⟨t1, t2⟩ | ⟨t1, t2, t5⟩
              · go_wp2_with fail
                go_meet
                exact ⟨rfl, rfl⟩
              · go_wp2_with fail
                go_meet
                exact ⟨rfl, rfl⟩
              · have t6 : decide (0 < nn.length) = false := by rw [t5]; rfl
                clear t5
                go_wp2_with fail
                go_meet
                exact ⟨rfl, rfl⟩
            case rest =>
              obtain ⟨rfl, rfl⟩ := hcut
              clear hd c0 c1 y0 hlt hj
              obtain ⟨b0, b1⟩ := HBL.out.cells
              have hr := HR.out _ HG.out
              obtain ⟨⟨p0, p1⟩, f0, f1⟩ := hr.sto
              obtain ⟨r0, r1⟩ := cell2 (store2 hr (.slice aa nn.length ca) (.slice ab (esT d (drM d)).length cb))
              have y2 : w.heap.size + 2 < wc.heap.size := by omega
              have y1 : w.heap.size + 1 < wc.heap.size := by omega
              clear hr
              go_wp2_with fail
              refine bodyPost_ret (v := gval aa nn.length ca ab (esT d (drM d)).length cb) (by simp [results, Try.results33, go_sem, r0, r1]) rfl ?_
              have hi1 := isI_own ((HON.out.stored' (a := ⟨w.heap.size + 1, 0, none⟩) (show w.heap.size + 1 < w.heap.size + 3 by omega) (.slice aa nn.length ca)).stored' (a := ⟨w.heap.size + 1, 1, none⟩) (show w.heap.size + 1 < w.heap.size + 3 by omega) (.slice ab (esT d (drM d)).length cb))
              have hi2 := isE_own ((HO.out.stored' (a := ⟨w.heap.size + 1, 0, none⟩) (show w.heap.size + 1 < w.heap.size + 3 by omega) (.slice aa nn.length ca)).stored' (a := ⟨w.heap.size + 1, 1, none⟩) (show w.heap.size + 1 < w.heap.size + 3 by omega) (.slice ab (esT d (drM d)).length cb))
              exact ⟨⟨_, rfl, by rw [HMG.out]; exact isG_of (g := ⟨nn, esT d (drM d)⟩) hi1 hi2⟩, ((HW.out _ HG.out).setCell (p := ⟨w.heap.size + 1, 0, none⟩) (Nat.le_succ _) _).setCell (p := ⟨w.heap.size + 1, 1, none⟩) (Nat.le_succ _) _⟩

end Go.Proofs.Ytiafmhdicgmfaaa
