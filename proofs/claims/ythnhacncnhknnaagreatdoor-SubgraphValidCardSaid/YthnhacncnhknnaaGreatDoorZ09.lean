import Derived.Test.YthnhacncnhknnaaGreatDoorZ04
import Derived.Test.YthnhacncnhknnaaGreatDoorZ05
import Derived.Test.YthnhacncnhknnaaGreatDoorZ06
import Derived.Test.YthnhacncnhknnaaGreatDoorZ01
import Derived.Test.YthnhacncnhknnaaGreatDoorZ03
import Derived.BigRegion
/-
  Parts of graphs, the reference: Extract. Printed by mkr11.py.
-/
namespace Go.Proofs.YthnhacncnhknnaaGreatDoor
open Go.RowKit Go.Shelf

def ExtPo (E : Nat) (Q : Gr) (R : Mo) (u : World) (e : Ending) (w' : World) : Prop := (∃ Gn gn Ge ge Xn xn Xe xe, e = .returned (.tuple #[gval Gn Q.ns.length gn Ge Q.es.length ge, gval Xn R.ns.length xn Xe R.es.length xe, .int .i64 (E : Int)]) ∧ GrAt w' Gn gn Ge ge Q ∧ Ints w' w'.heap.size Xn R.ns ∧ Ints w' w'.heap.size Xe R.es ∧ R.ns.length ≤ maxLen ∧ R.es.length ≤ maxLen) ∧ Below u.heap.size u w'
theorem oneI {W : World} {g : Nat} {k : Int} (h : W.heap[g]? = some (.cells #[.int .i64 k] 3 (0, 0))) : ∀ (j : Nat) (u : Value), (EInt.enc k)[j]? = some u → W.cell? ((⟨g, 0, none⟩ : Addr).add j) = some u := news_of (E := EInt) h rfl
theorem oneE {W : World} {g : Nat} {x : Ed} (h : W.heap[g]? = some (.cells #[.int .i64 x.ty, .int .i64 x.fr, .int .i64 x.tq] 58 (0, 0))) : ∀ (j : Nat) (u : Value), (EEd.enc x)[j]? = some u → W.cell? ((⟨g, 0, none⟩ : Addr).add j) = some u := news_of (E := EEd) h rfl
theorem ints_kept {W W2 : World} {A : Option Addr} {xs : List Int} {g : Nat} {t : TypeId} (h : Ints W W.heap.size A xs) (hl : W.heap[g]? = some (.cells #[] t (0, 0))) (hg : W.grownBy W2 (some g)) : Ints W2 W2.heap.size A xs := by
  rcases h with h | ⟨b, off, h1, h2, h3⟩
  · exact .inl h
  · refine .inr ⟨b, off, h1, Nat.lt_of_lt_of_le h2 hg.size, fun i x hi q u hu => ?_⟩
    have hc := h3 i x hi q u hu
    have hne : b ≠ g := fun e => by
      subst e
      rw [cell_of_row _ _ _ _ _ _ hl] at hc
      simp at hc
    have hb := hg.block b h2 (fun e => by first | exact hne (Option.some.inj e) | exact hne (Option.some.inj e).symm)
    exact (World.cell?_of_block (w := W) (a := ⟨b, off + i * EInt.size + q, none⟩) hb).trans hc
theorem nat_of {l : List Int} {n k : Nat} (h : ∀ x ∈ l, 0 ≤ x ∧ x < n) (hk : k < l.length) : ∃ i : Nat, l.getD k 0 = (i : Int) ∧ i < n := by
  have hr := h _ (getD_mem (d := (0 : Int)) hk)
  exact ⟨(l.getD k 0).toNat, by omega, by omega⟩
theorem BX.low {g B : Nat} {u v : Value} {t : TypeId} {W W' : World} (h : BX g u v t W) (hb : Below B W W') (hg : g < B) : BX g u v t W' := (hb.block g hg).trans h
theorem BX.aft {g k : Nat} {u v : Value} {t : TypeId} {W : World} (h : BX g u v t W) (hk : g ≠ k) (j : Nat) (y : Value) : BX g u v t (W.setCell ⟨k, j, none⟩ y) := (heap_setCell_other _ _ _ _ (by show g ≠ k; exact hk)).trans h
theorem BX.set0 {g : Nat} {u v : Value} {t : TypeId} {W : World} (h : BX g u v t W) (x : Value) : BX g x v t (W.setCell ⟨g, 0, none⟩ x) := BoxIs.set0 h x
theorem BX.set1 {g : Nat} {u v : Value} {t : TypeId} {W : World} (h : BX g u v t W) (x : Value) : BX g u x t (W.setCell ⟨g, 1, none⟩ x) := BoxIs.set1 h x

set_option maxRecDepth 100000 in
set_option maxHeartbeats 8000000 in
theorem extract7_any : ExtC 9 := by
  intro g p An cn Ae ce Pn pn Pe pe w hg hp
  suffices key : Calls Tryz.prog 9 #[gval An g.ns.length cn Ae g.es.length ce, gval Pn p.ns.length pn Pe p.es.length pe] w (ExtPo (partE g p) (extG g p) (extM g p) w) from key
  have hS0 : SR w [(.slice An g.ns.length cn, .slice Ae g.es.length ce, 25), (.slice Pn p.ns.length pn, .slice Pe p.es.length pe, 27), (.slice none 0 0, .slice none 0 0, 25), (.slice none 0 0, .slice none 0 0, 30)] ((((w.alloc (.cells #[.slice An g.ns.length cn, .slice Ae g.es.length ce] 25)).alloc (.cells #[.slice Pn p.ns.length pn, .slice Pe p.es.length pe] 27)).alloc (.cells #[.slice none 0 0, .slice none 0 0] 25)).alloc (.cells #[.slice none 0 0, .slice none 0 0] 30)) := SR.push (SR.push (SR.push (SR.push (SR.nil w) rfl _ _ _) (by simp) _ _ _) (by simp) _ _ _) (by simp) _ _ _
  have HV := Lib.hid (fun (u : World) (hu : Below w.heap.size w u) => valid7_any g p An cn Ae ce Pn pn Pe pe u (hg.up hu) (hp.up hu))
  have HIX := Lib.hid (fun (x : Int) (u : World) (hu : Below w.heap.size w u) => index7_any p.ns x Pn u.heap.size pn u (by have := hp.ln; unfold maxLen; omega) (Reads.up hp.ns hu))
  have HRN := Lib.hid (fun (k : Nat) (hk : k < p.ns.length) => Ints.cells hp.ns hk)
  have HRE := Lib.hid (fun (k : Nat) (hk : k < p.es.length) => Ints.cells hp.es hk)
  have HGN := Lib.hid (fun (k : Nat) (hk : k < g.ns.length) => Ints.cells hg.ns hk)
  have HGE := Lib.hid (fun (k : Nat) (hk : k < g.es.length) => Eds.cells hg.es hk)
  have HPN := Lib.hid (fun (u : World) (hu : Below w.heap.size w u) => Reads.up hp.ns hu)
  have HPE := Lib.hid (fun (u : World) (hu : Below w.heap.size w u) => Reads.up hp.es hu)
  have HOK : Hid (partE g p = 0 → PartOk g p) := Lib.hid fun h => (part_zero.1 h).2
  have HIG : Hid (extG g p = if partE g p = 0 then subG g p else noG) := Lib.hid rfl
  have HIM : Hid (extM g p = if partE g p = 0 then p else noM) := Lib.hid rfl
  have HPL := Lib.hid (And.intro hp.ln hp.le)
  have HSU : Hid (subG g p = ⟨coll (fun k => [subNd g p k]) p.ns.length, coll (fun k => [subEd g p k]) p.es.length⟩) := Lib.hid rfl
  have HS0 := Lib.hid hS0
  clear hS0 hg hp
  generalize extG g p = RG at *
  generalize extM g p = RM at *
  generalize partE g p = E at *
  generalize subG g p = Q at *
  go_enter Tryz.func9, Tryz.ntmps9
  obtain ⟨c0, c1⟩ := HS0.out.cell (i := 0) rfl
  obtain ⟨c2, c3⟩ := HS0.out.cell (i := 1) rfl
  simp only [Nat.add_zero] at c0 c1
  go_wp2_with fail
  refine (HV.out _ HS0.out.1).mono ?_
  rintro e w1 ⟨rfl, hb1⟩
  have HS1 := Lib.hid (HS0.out.up hb1)
  clear hb1 HS0 HV c0 c1 c2 c3
  by_cases h1 : E = 0
  case neg =>
    have HR1 := Lib.hid (show RG = noG by rw [HIG.out, if_neg h1])
    have HR2 := Lib.hid (show RM = noM by rw [HIM.out, if_neg h1])
    have t1 : ((E : Int) != 0) = true := by simp; omega
    have hS2 := HS1.out.set (i := 2) rfl (.slice none 0 0) (.slice none 0 0)
    have hS3 := hS2.set (i := 3) rfl (.slice none 0 0) (.slice none 0 0)
    obtain ⟨c4, c5⟩ := HS1.out.cell (i := 2) rfl
    have fr0 := HS1.out.free (i := 2) rfl 0
    have fr1 := HS1.out.free (i := 2) rfl 1
    obtain ⟨c6, c7⟩ := hS2.cell (i := 3) rfl
    have fr2 := hS2.free (i := 3) rfl 0
    have fr3 := hS2.free (i := 3) rfl 1
    have HS3 := Lib.hid hS3
    clear h1 hS2 hS3
    go_wp2_with fail
    obtain ⟨r0, r1⟩ := HS3.out.cell (i := 2) rfl
    obtain ⟨r2, r3⟩ := HS3.out.cell (i := 3) rfl
    refine bodyPost_ret (v := .tuple #[gval none 0 0 none 0 0, gval none 0 0 none 0 0, .int .i64 ((E : Nat))]) (by simp [results, Tryz.results9, go_sem, r0, r1, r2, r3]) rfl ?_
    rw [HR1.out, HR2.out]
    unfold ExtPo
    exact ⟨⟨none, 0, none, 0, none, 0, none, 0, rfl, ⟨.inl rfl, .inl rfl, ⟨Nat.le_refl _, Nat.zero_le _⟩, ⟨Nat.le_refl _, Nat.zero_le _⟩⟩, .inl rfl, .inl rfl, Nat.zero_le _, Nat.zero_le _⟩, HS3.out.1⟩
  have hok := HOK.out h1
  have HRG := Lib.hid (show RG = Q by rw [HIG.out, if_pos h1])
  have HRP := Lib.hid (show RM = p by rw [HIM.out, if_pos h1])
  have HEE := Lib.hid h1
  have HNR := Lib.hid (fun k (hk : k < p.ns.length) => nat_of hok.rn hk)
  have HER := Lib.hid (fun k (hk : k < p.es.length) => nat_of hok.re hk)
  have HCN := Lib.hid (fun k => show coll (fun k => [subNd g p k]) (k + 1) = coll (fun k => [subNd g p k]) k ++ [subNd g p k] from rfl)
  have HCE := Lib.hid (fun k => show coll (fun k => [subEd g p k]) (k + 1) = coll (fun k => [subEd g p k]) k ++ [subEd g p k] from rfl)
  have HN0 : Hid (coll (fun k => [subNd g p k]) 0 = []) := Lib.hid rfl
  have HE0 : Hid (coll (fun k => [subEd g p k]) 0 = []) := Lib.hid rfl
  have HNL : Hid (∀ k, (coll (fun k => [subNd g p k]) k).length ≤ k) := Lib.hid (coll_le fun i => by simp)
  have HEL : Hid (∀ k, (coll (fun k => [subEd g p k]) k).length ≤ k) := Lib.hid (coll_le fun i => by simp)
  have HSN : Hid (∀ k, subNd g p k = g.ns.getD (p.ns.getD k 0).toNat 0) := Lib.hid fun _ => rfl
  have HSE : Hid (∀ k, subEd g p k = ⟨(g.es.getD (p.es.getD k 0).toNat default).ty, idxOf p.ns (g.es.getD (p.es.getD k 0).toNat default).fr p.ns.length, idxOf p.ns (g.es.getD (p.es.getD k 0).toNat default).tq p.ns.length⟩) := Lib.hid fun _ => rfl
  have t1 : ((E : Int) != 0) = false := by simp; omega
  clear h1 hok HOK HIG HIM
  generalize coll (fun k => [subNd g p k]) = CN at *
  generalize coll (fun k => [subEd g p k]) = CE at *
  generalize subNd g p = SN at *
  generalize subEd g p = SE at *
  have hl := HPL.out
  obtain ⟨wx, hwx⟩ : ∃ wx, wx = w1.alloc (.cells #[.slice none 0 0, .slice none 0 0] 25) := ⟨_, rfl⟩
  obtain ⟨g8, hg8⟩ : ∃ g8, g8 = w1.heap.size := ⟨_, rfl⟩
  have H8 : Hid (w.heap.size + 4 ≤ g8) := Lib.hid (by rw [hg8]; exact heap_lt (HS1.out.2 3 _ rfl))
  have HXX : Hid (BX g8 (.slice none 0 0) (.slice none 0 0) 25 wx) := Lib.hid (by rw [hg8, hwx]; exact heap_alloc_new _ _)
  have HSX : Hid (SR w [(.slice An g.ns.length cn, .slice Ae g.es.length ce, 25), (.slice Pn p.ns.length pn, .slice Pe p.es.length pe, 27), (.slice none 0 0, .slice none 0 0, 25), (.slice none 0 0, .slice none 0 0, 30)] wx) := Lib.hid (by rw [hwx]; exact HS1.out.up (below_a _ _))
  go_wp2_with fail
  rw [← hwx, ← hg8]
  clear hwx hg8 t1 HS1
  go_loopw [9] (fun v wr => ∃ (k : Nat) (vN : Value), k ≤ p.ns.length ∧ v = .int .i64 (k : Int) ∧ BX g8 vN (.slice none 0 0) 25 wr ∧ OwnI wr (g8 + 1) vN (CN k) ∧ SR w [(.slice An g.ns.length cn, .slice Ae g.es.length ce, 25), (.slice Pn p.ns.length pn, .slice Pe p.es.length pe, 27), (.slice none 0 0, .slice none 0 0, 25), (.slice none 0 0, .slice none 0 0, 30)] wr) (fun v _ => p.ns.length - (intOf v).toNat)
  case atStart => exact ⟨0, _, Nat.zero_le _, rfl, HXX.out, by rw [HN0.out]; exact OwnE.nil _ _ _, HSX.out⟩
  case round =>
    clear HXX HSX
    obtain ⟨k, vN, hk, rfl, hx, ho, hs⟩ := hrel
    have HX := Lib.hid hx
    have HO := Lib.hid ho
    have HS := Lib.hid hs
    clear hx ho hs
    obtain ⟨ao, cap, rfl⟩ := OwnE.slice HO.out
    obtain ⟨c2, c3⟩ := HS.out.cell (i := 1) rfl
    by_cases hlt : k < p.ns.length
    · obtain ⟨i, hi, hil⟩ := HNR.out k hlt
      obtain ⟨bp, op, rfl, hbp, q0⟩ := HRN.out k hlt
      obtain ⟨bg, og, rfl, hbg, q1⟩ := HGN.out i hil
      have k0 := cell_up HS.out.1 (q0 k hlt)
      have k1 := cell_up HS.out.1 (q1 i hil)
      have HY := Lib.hid (HCN.out k)
      rw [HSN.out, hi, Int.toNat_natCast] at HY
      rw [hi] at k0
      generalize g.ns.getD i 0 = y at *
      have i0 : (0 : Int) ≤ (k : Int) := by omega
      have i1 : (k : Int) < (p.ns.length : Int) := by omega
      have i2 : ((k : Int)).toNat = k := by omega
      have j0 : (0 : Int) ≤ (i : Int) := by omega
      have j1 : (i : Int) < (g.ns.length : Int) := by omega
      have j2 : ((i : Int)).toNat = i := by omega
      have HLT := Lib.hid hlt
      have HLN : Hid ((CN k).length ≤ 1000) := Lib.hid (by have := HNL.out k; omega)
      have HMS : Hid (p.ns.length - ((k : Int) + 1).toNat < p.ns.length - ((k : Int)).toNat) := Lib.hid (by omega)
      have h8 := H8.out
      obtain ⟨c0, c1⟩ := HS.out.cell (i := 0) rfl
      simp only [Nat.add_zero] at c0 c1
      clear q0 q1 hi
      go_upto_region 8 with fail
      have HMM : Hid (∀ u, Below g8 wr.drew u → (fun u : World => u.cell? ⟨w.heap.size, 0, none⟩ = some (.slice (some ⟨bg, og, none⟩) g.ns.length cn) ∧ u.cell? ⟨w.heap.size + 1, 0, none⟩ = some (.slice (some ⟨bp, op, none⟩) p.ns.length pn) ∧ u.cell? ⟨bp, op + k, none⟩ = some (.int .i64 (i : Int)) ∧ u.cell? ⟨bg, og + i, none⟩ = some (.int .i64 y)) u) := Lib.hid fun u hb => ⟨(hb.cell (p := ⟨w.heap.size, 0, none⟩) (by show w.heap.size < g8; omega)).trans c0, (hb.cell (p := ⟨w.heap.size + 1, 0, none⟩) (by show w.heap.size + 1 < g8; omega)).trans c2, (hb.cell (p := ⟨bp, op + k, none⟩) (by show bp < g8; omega)).trans k0, (hb.cell (p := ⟨bg, og + i, none⟩) (by show bg < g8; omega)).trans k1⟩
      have WD_wd := Lib.hid (Below.refl g8 wr.drew)
      have HX_wd := Lib.hid (HX.out.up (below_d wr))
      have HO_wd := Lib.hid (OwnE.below HO.out (below_d wr) (Nat.le_refl _))
      have HSD := Lib.hid (HS.out.up (below_d wr))
      clear c0 c1 c2 c3 k0 k1 HX HO HS
      refine wp_region_noPanic ?_
      refine wp_region_held_drew (S := (fun u : World => u.cell? ⟨w.heap.size, 0, none⟩ = some (.slice (some ⟨bg, og, none⟩) g.ns.length cn) ∧ u.cell? ⟨w.heap.size + 1, 0, none⟩ = some (.slice (some ⟨bp, op, none⟩) p.ns.length pn) ∧ u.cell? ⟨bp, op + k, none⟩ = some (.int .i64 (i : Int)) ∧ u.cell? ⟨bg, og + i, none⟩ = some (.int .i64 y))) (by kernel_rfl) (HMM.out _ WD_wd.out) (fun hHeld => ?_)
      generalize wr.drew = wd at *
      refine wpAnyH_take (i := 0) (v := ?_) (oper_at (r := _) rfl) (by kernel_rfl) (by kernel_rfl) (by kernel_rfl) (fun _ _ _ h => h) (Or.inl ⟨by rfl, ?_⟩) (by assumption) ?_
      rotate_left
      · intro w hSw; try dsimp only at hSw
        go_simp
        try with_reducible rfl
      try simp only [Act.put, List.setIfInBounds_toArray, List.set_cons_zero, List.set_cons_succ]
      refine wpAnyH_take (i := 2) (v := ?_) (oper_at (r := _) rfl) (by kernel_rfl) (by kernel_rfl) (by kernel_rfl) (fun _ _ _ h => h) (Or.inl ⟨by rfl, ?_⟩) (by assumption) ?_
      rotate_left
      · intro w hSw; try dsimp only at hSw
        go_simp
        try with_reducible rfl
      try simp only [Act.put, List.setIfInBounds_toArray, List.set_cons_zero, List.set_cons_succ]
      refine wpAnyH_take (i := 3) (v := ?_) (oper_at (r := _) rfl) (by kernel_rfl) (by kernel_rfl) (by kernel_rfl) (fun _ _ _ h => h) (Or.inl ⟨by rfl, ?_⟩) (by assumption) ?_
      rotate_left
      · intro w hSw; try dsimp only at hSw
        go_simp
        try with_reducible rfl
      try simp only [Act.put, List.setIfInBounds_toArray, List.set_cons_zero, List.set_cons_succ]
      refine wpAnyH_take (i := 4) (v := ?_) (oper_at (r := _) rfl) (by kernel_rfl) (by kernel_rfl) (by kernel_rfl) (fun _ _ _ h => h) (Or.inl ⟨by rfl, ?_⟩) (by assumption) ?_
      rotate_left
      · intro w hSw; try dsimp only at hSw
        go_simp
        try with_reducible rfl
      try simp only [Act.put, List.setIfInBounds_toArray, List.set_cons_zero, List.set_cons_succ]
      refine wpAnyH_take (i := 5) (v := ?_) (oper_at (r := _) rfl) (by kernel_rfl) (by kernel_rfl) (by kernel_rfl) (fun _ _ _ h => h) (Or.inl ⟨by rfl, ?_⟩) (by assumption) ?_
      rotate_left
      · intro w hSw; try dsimp only at hSw
        go_simp
        try with_reducible rfl
      try simp only [Act.put, List.setIfInBounds_toArray, List.set_cons_zero, List.set_cons_succ]
      refine wpAnyH_take (i := 6) (v := ?_) (oper_at (r := _) rfl) (by kernel_rfl) (by kernel_rfl) (by kernel_rfl) (fun _ _ _ h => h) (Or.inl ⟨by rfl, ?_⟩) (by assumption) ?_
      rotate_left
      · intro w hSw; try dsimp only at hSw
        go_simp
        try with_reducible rfl
      try simp only [Act.put, List.setIfInBounds_toArray, List.set_cons_zero, List.set_cons_succ]
      refine wpAnyH_take (i := 7) (v := ?_) (oper_at (r := _) rfl) (by kernel_rfl) (by kernel_rfl) (by kernel_rfl) (fun _ _ _ h => h) (Or.inl ⟨by rfl, ?_⟩) (by assumption) ?_
      rotate_left
      · intro w hSw; try dsimp only at hSw
        go_simp
        try with_reducible rfl
      try simp only [Act.put, List.setIfInBounds_toArray, List.set_cons_zero, List.set_cons_succ]
      refine wpAnyH_take (i := 8) (v := ?_) (oper_at (r := _) rfl) (by kernel_rfl) (by kernel_rfl) (by kernel_rfl) (fun _ _ _ h => h) (Or.inl ⟨by rfl, ?_⟩) (by assumption) ?_
      rotate_left
      · intro w hSw; try dsimp only at hSw
        go_simp
        try with_reducible rfl
      try simp only [Act.put, List.setIfInBounds_toArray, List.set_cons_zero, List.set_cons_succ]
      refine wpAnyH_take (i := 9) (v := ?_) (oper_at (r := _) rfl) (by kernel_rfl) (by kernel_rfl) (by kernel_rfl) (fun _ _ _ h => h) (Or.inl ⟨by rfl, ?_⟩) (by assumption) ?_
      rotate_left
      · intro w hSw; try dsimp only at hSw
        go_simp
        try with_reducible rfl
      try simp only [Act.put, List.setIfInBounds_toArray, List.set_cons_zero, List.set_cons_succ]
      refine wpAnyH_take (i := 10) (v := ?_) (oper_at (r := _) rfl) (by kernel_rfl) (by kernel_rfl) (by kernel_rfl) (fun _ _ _ h => h) (Or.inl ⟨by rfl, ?_⟩) (by assumption) ?_
      rotate_left
      · intro w hSw; try dsimp only at hSw
        go_simp
        try with_reducible rfl
      try simp only [Act.put, List.setIfInBounds_toArray, List.set_cons_zero, List.set_cons_succ]
      refine wpAnyH_ready (rs := [1, 11]) (by kernel_rfl) (by simp) ?_
      refine (AllReadyH.cons (oper_at (r := _) rfl) (fun K hK => ?_) (AllReadyH.cons (oper_at (r := _) rfl) (fun K hK => ?_) AllReadyH.nil))
      · skip
        obtain ⟨b0, b1⟩ := HX_wd.out.cells
        go_simp
        clear b0 b1
        refine hK.out _ _ (HMM.out _ WD_wd.out) (fun _ => ?_)
        clear hK K
        try simp only [Act.put, List.setIfInBounds_toArray, List.set_cons_zero, List.set_cons_succ]
        refine wpAnyH_ready (rs := [11]) (by kernel_rfl) (by simp) ?_
        refine AllReadyH.cons (oper_at (r := _) rfl) (fun K hK => ?_) AllReadyH.nil
        obtain ⟨ga, hga⟩ : ∃ g, g = wd.heap.size := ⟨_, rfl⟩
        have lz : g8 ≤ wd.heap.size := Nat.le_of_lt HX_wd.out.lt
        have hx : (wd.alloc (.cells #[.int .i64 y] 3)).heap[ga]? = some (.cells #[.int .i64 y] 3 (0, 0)) := by rw [hga]; exact heap_alloc_new _ _
        have hb : Below wd.heap.size wd (wd.alloc (.cells #[.int .i64 y] 3)) := (Below.refl _ _).alloc (Nat.le_refl _) _
        have WD_W1 := Lib.hid (WD_wd.out.trans (hb.mono lz))
        have HX_W1 := Lib.hid (HX_wd.out.up hb)
        have HO_W1 := Lib.hid (OwnE.below HO_wd.out hb (Nat.le_refl _))
        clear WD_wd HX_wd HO_wd
        have LA_W1 := Lib.hid hx
        clear hx hb lz
        go_simp
        refine hK.out _ _ (HMM.out _ WD_W1.out) (fun _ => ?_)
        clear hK K
        try simp only [Act.put, List.setIfInBounds_toArray, List.set_cons_zero, List.set_cons_succ]
        generalize wd.alloc (.cells #[.int .i64 y] 3) = W1 at *
        try rw [← hga]
        clear hga
        refine wpAnyH_ready (rs := [12]) (by kernel_rfl) (by simp) ?_
        refine AllReadyH.cons (oper_at (r := _) rfl) (fun K hK => ?_) AllReadyH.nil
        refine step_append_E (E := EInt) (by rfl) _ _ 22 3 (by rfl) Tryz.underlying22 infoInt rfl (by decide) (by decide) (g8 + 1) (.slice ao (CN k).length cap) (CN k) (by rfl) HO_W1.out ⟨ga, 0, none⟩ 1 y (by rfl) (oneI LA_W1.out) (by have := HLN.out; omega) HX_W1.out.lt ?_
        intro v3 W2 ho hgr hb
        have WD_W2 := Lib.hid (WD_W1.out.trans (hb.mono (Nat.le_succ _)))
        have HX_W2 := Lib.hid (HX_W1.out.low hb (Nat.lt_succ_self _))
        have HO_W2 := Lib.hid (OwnE.cast HY.out.symm ho)
        obtain ⟨a3, c3, rfl⟩ := OwnE.slice HO_W2.out
        clear ho hgr hb
        refine hK.out _ _ (HMM.out _ WD_W2.out) (fun _ => ?_)
        clear hK K
        try simp only [Act.put, List.setIfInBounds_toArray, List.set_cons_zero, List.set_cons_succ]
        refine wpAnyH_take (i := 13) (v := ?_) (oper_at (r := _) rfl) (by kernel_rfl) (by kernel_rfl) (by kernel_rfl) (fun _ _ _ h => h) (Or.inl ⟨by rfl, ?_⟩) (by assumption) ?_
        rotate_left
        · intro w hSw; try dsimp only at hSw
          go_simp
          try with_reducible rfl
        try simp only [Act.put, List.setIfInBounds_toArray, List.set_cons_zero, List.set_cons_succ]
        refine wpAnyH_ready (rs := [14]) (by kernel_rfl) (by simp) ?_
        refine AllReadyH.cons (oper_at (r := _) rfl) (fun K hK => ?_) AllReadyH.nil
        have fr0 := HX_W2.out.free 0
        obtain ⟨e0, e1⟩ := HX_W2.out.cells
        go_simp
        clear fr0 e0 e1
        have WDZ := Lib.hid (WD_W2.out.setCell (p := ⟨g8, 0, none⟩) (by show g8 ≤ g8; exact Nat.le_refl _) (.slice a3 (CN (k + 1)).length c3))
        have HXZ := Lib.hid (HX_W2.out.set0 (.slice a3 (CN (k + 1)).length c3))
        have HOZ := Lib.hid (OwnE.setBox (x := (.slice a3 (CN (k + 1)).length c3)) HO_W2.out HX_W2.out (by decide) 0)
        refine hK.out _ _ (HMM.out _ WDZ.out) (fun _ => ?_)
        clear hK K
        try simp only [Act.put, List.setIfInBounds_toArray, List.set_cons_zero, List.set_cons_succ]
        have HSZ := Lib.hid (SR.low HSD.out (by have := H8.out; simpa using this) WDZ.out)
        refine wpAnyH_done (by kernel_rfl) ?_ _
        refine NoPanic.normal ?_
        go_wp2_with fail
        go_roundw
        case rel => exact ⟨k + 1, _, HLT.out, by go_num, HXZ.out, HOZ.out, HSZ.out⟩
        case measure => exact HMS.out
      · skip
        obtain ⟨ga, hga⟩ : ∃ g, g = wd.heap.size := ⟨_, rfl⟩
        have lz : g8 ≤ wd.heap.size := Nat.le_of_lt HX_wd.out.lt
        have hx : (wd.alloc (.cells #[.int .i64 y] 3)).heap[ga]? = some (.cells #[.int .i64 y] 3 (0, 0)) := by rw [hga]; exact heap_alloc_new _ _
        have hb : Below wd.heap.size wd (wd.alloc (.cells #[.int .i64 y] 3)) := (Below.refl _ _).alloc (Nat.le_refl _) _
        have WD_W3 := Lib.hid (WD_wd.out.trans (hb.mono lz))
        have HX_W3 := Lib.hid (HX_wd.out.up hb)
        have HO_W3 := Lib.hid (OwnE.below HO_wd.out hb (Nat.le_refl _))
        clear WD_wd HX_wd HO_wd
        have LA_W3 := Lib.hid hx
        clear hx hb lz
        go_simp
        refine hK.out _ _ (HMM.out _ WD_W3.out) (fun _ => ?_)
        clear hK K
        try simp only [Act.put, List.setIfInBounds_toArray, List.set_cons_zero, List.set_cons_succ]
        generalize wd.alloc (.cells #[.int .i64 y] 3) = W3 at *
        try rw [← hga]
        clear hga
        refine wpAnyH_ready (rs := [1]) (by kernel_rfl) (by simp) ?_
        refine AllReadyH.cons (oper_at (r := _) rfl) (fun K hK => ?_) AllReadyH.nil
        obtain ⟨b0, b1⟩ := HX_W3.out.cells
        go_simp
        clear b0 b1
        refine hK.out _ _ (HMM.out _ WD_W3.out) (fun _ => ?_)
        clear hK K
        try simp only [Act.put, List.setIfInBounds_toArray, List.set_cons_zero, List.set_cons_succ]
        refine wpAnyH_ready (rs := [12]) (by kernel_rfl) (by simp) ?_
        refine AllReadyH.cons (oper_at (r := _) rfl) (fun K hK => ?_) AllReadyH.nil
        refine step_append_E (E := EInt) (by rfl) _ _ 22 3 (by rfl) Tryz.underlying22 infoInt rfl (by decide) (by decide) (g8 + 1) (.slice ao (CN k).length cap) (CN k) (by rfl) HO_W3.out ⟨ga, 0, none⟩ 1 y (by rfl) (oneI LA_W3.out) (by have := HLN.out; omega) HX_W3.out.lt ?_
        intro v3 W4 ho hgr hb
        have WD_W4 := Lib.hid (WD_W3.out.trans (hb.mono (Nat.le_succ _)))
        have HX_W4 := Lib.hid (HX_W3.out.low hb (Nat.lt_succ_self _))
        have HO_W4 := Lib.hid (OwnE.cast HY.out.symm ho)
        obtain ⟨a3, c3, rfl⟩ := OwnE.slice HO_W4.out
        clear ho hgr hb
        refine hK.out _ _ (HMM.out _ WD_W4.out) (fun _ => ?_)
        clear hK K
        try simp only [Act.put, List.setIfInBounds_toArray, List.set_cons_zero, List.set_cons_succ]
        refine wpAnyH_take (i := 13) (v := ?_) (oper_at (r := _) rfl) (by kernel_rfl) (by kernel_rfl) (by kernel_rfl) (fun _ _ _ h => h) (Or.inl ⟨by rfl, ?_⟩) (by assumption) ?_
        rotate_left
        · intro w hSw; try dsimp only at hSw
          go_simp
          try with_reducible rfl
        try simp only [Act.put, List.setIfInBounds_toArray, List.set_cons_zero, List.set_cons_succ]
        refine wpAnyH_ready (rs := [14]) (by kernel_rfl) (by simp) ?_
        refine AllReadyH.cons (oper_at (r := _) rfl) (fun K hK => ?_) AllReadyH.nil
        have fr0 := HX_W4.out.free 0
        obtain ⟨e0, e1⟩ := HX_W4.out.cells
        go_simp
        clear fr0 e0 e1
        have WDZ := Lib.hid (WD_W4.out.setCell (p := ⟨g8, 0, none⟩) (by show g8 ≤ g8; exact Nat.le_refl _) (.slice a3 (CN (k + 1)).length c3))
        have HXZ := Lib.hid (HX_W4.out.set0 (.slice a3 (CN (k + 1)).length c3))
        have HOZ := Lib.hid (OwnE.setBox (x := (.slice a3 (CN (k + 1)).length c3)) HO_W4.out HX_W4.out (by decide) 0)
        refine hK.out _ _ (HMM.out _ WDZ.out) (fun _ => ?_)
        clear hK K
        try simp only [Act.put, List.setIfInBounds_toArray, List.set_cons_zero, List.set_cons_succ]
        have HSZ := Lib.hid (SR.low HSD.out (by have := H8.out; simpa using this) WDZ.out)
        refine wpAnyH_done (by kernel_rfl) ?_ _
        refine NoPanic.normal ?_
        go_wp2_with fail
        go_roundw
        case rel => exact ⟨k + 1, _, HLT.out, by go_num, HXZ.out, HOZ.out, HSZ.out⟩
        case measure => exact HMS.out
    · have e : k = p.ns.length := by omega
      subst e
      clear HCN HN0 HNL HSN HNR HRN HGN hlt hk
      generalize CN p.ns.length = NN at *
      go_wp2_with fail
      clear c2 c3
      go_loopw [10] (fun v wr => ∃ (k : Nat) (vE : Value), k ≤ p.es.length ∧ v = .int .i64 (k : Int) ∧ BX g8 (.slice ao NN.length cap) vE 25 wr ∧ OwnI wr (g8 + 1) (.slice ao NN.length cap) NN ∧ OwnE EEd 58 wr (g8 + 1) vE (CE k) ∧ SR w [(.slice An g.ns.length cn, .slice Ae g.es.length ce, 25), (.slice Pn p.ns.length pn, .slice Pe p.es.length pe, 27), (.slice none 0 0, .slice none 0 0, 25), (.slice none 0 0, .slice none 0 0, 30)] wr) (fun v _ => p.es.length - (intOf v).toNat)
      case atStart => exact ⟨0, _, Nat.zero_le _, rfl, HX.out, HO.out, by rw [HE0.out]; exact OwnE.nil _ _ _, HS.out⟩
      case round =>
        clear HX HO HS
        obtain ⟨k, vE, hk, rfl, hx, ho, he, hs⟩ := hrel
        have HX := Lib.hid hx
        have HN := Lib.hid ho
        have HE := Lib.hid he
        have HS := Lib.hid hs
        clear hx ho he hs
        obtain ⟨ae, cpe, rfl⟩ := OwnE.slice HE.out
        obtain ⟨c2, c3⟩ := HS.out.cell (i := 1) rfl
        by_cases hlt : k < p.es.length
        · obtain ⟨i, hi, hil⟩ := HER.out k hlt
          obtain ⟨bp, op, rfl, hbp, q0⟩ := HRE.out k hlt
          obtain ⟨bg, og, rfl, hbg, q1⟩ := HGE.out i hil
          obtain ⟨q2, q3, q4⟩ := q1 i hil
          have ck := cell_up HS.out.1 (q0 k hlt)
          have d0 := cell_up HS.out.1 q2
          have d1 := cell_up HS.out.1 q3
          have d2 := cell_up HS.out.1 q4
          have HY := Lib.hid (HCE.out k)
          rw [HSE.out, hi, Int.toNat_natCast] at HY
          rw [hi] at ck
          clear q0 q1 q2 q3 q4 hi
          generalize g.es.getD i default = x at *
          obtain ⟨ty, fr, tt⟩ := x
          dsimp only at HY d0 d1 d2
          have HI1 := Lib.hid (HIX.out fr)
          have HI2 := Lib.hid (HIX.out tt)
          generalize idxOf p.ns fr p.ns.length = f1 at *
          generalize idxOf p.ns tt p.ns.length = f2 at *
          have i0 : (0 : Int) ≤ (k : Int) := by omega
          have i1 : (k : Int) < (p.es.length : Int) := by omega
          have i2 : ((k : Int)).toNat = k := by omega
          have j0 : (0 : Int) ≤ (i : Int) := by omega
          have j1 : (i : Int) < (g.es.length : Int) := by omega
          have j2 : ((i : Int)).toNat = i := by omega
          have HLT := Lib.hid hlt
          have HLN : Hid ((CE k).length ≤ 1000) := Lib.hid (by have := HEL.out k; omega)
          have HMS : Hid (p.es.length - ((k : Int) + 1).toNat < p.es.length - ((k : Int)).toNat) := Lib.hid (by omega)
          have HNE : Hid (∀ q, (Value.slice ae (CE k).length cpe).ownBlock = some q → q < wr.heap.size) := Lib.hid fun q h => (OwnE.lt HE.out q h).2
          obtain ⟨c0, c1⟩ := HS.out.cell (i := 0) rfl
          simp only [Nat.add_zero] at c0 c1
          go_upto_region 12 with fail
          go_cut [11] (fun u wx => ∃ gx : Nat, u = .pointer (some ⟨gx, 0, none⟩) ∧ BX3 gx (.int .i64 ty) (.int .i64 fr) (.int .i64 tt) 58 wx ∧ wr.heap.size ≤ gx ∧ Below wr.heap.size wr wx)
          case first =>
            go_wp2_with fail
            have HM : Hid (∀ u, Below wr.drew.heap.size wr.drew u → (fun u : World => u.cell? ⟨w.heap.size, 1, none⟩ = some (.slice (some ⟨bg, og, none⟩) g.es.length ce) ∧ u.cell? ⟨w.heap.size + 1, 1, none⟩ = some (.slice (some ⟨bp, op, none⟩) p.es.length pe) ∧ u.cell? ⟨bp, op + k, none⟩ = some (.int .i64 (i : Int)) ∧ u.cell? ⟨bg, og + i * 3, none⟩ = some (.int .i64 ty) ∧ u.cell? ⟨bg, og + i * 3 + 1, none⟩ = some (.int .i64 fr) ∧ u.cell? ⟨bg, og + i * 3 + 2, none⟩ = some (.int .i64 tt)) u) := Lib.hid fun u hu => ⟨cell_up hu c1, cell_up hu c3, cell_up hu ck, cell_up hu d0, cell_up hu d1, cell_up hu d2⟩
            have HVD := Lib.hid (below_d wr)
            have HDS : Hid (wr.drew.heap.size = wr.heap.size) := Lib.hid rfl
            have WD0 := Lib.hid (Below.refl wr.drew.heap.size wr.drew)
            clear c0 c1 c2 c3 ck d0 d1 d2
            refine wp_region_noPanic ?_
            refine wp_region_held_drew (S := (fun u : World => u.cell? ⟨w.heap.size, 1, none⟩ = some (.slice (some ⟨bg, og, none⟩) g.es.length ce) ∧ u.cell? ⟨w.heap.size + 1, 1, none⟩ = some (.slice (some ⟨bp, op, none⟩) p.es.length pe) ∧ u.cell? ⟨bp, op + k, none⟩ = some (.int .i64 (i : Int)) ∧ u.cell? ⟨bg, og + i * 3, none⟩ = some (.int .i64 ty) ∧ u.cell? ⟨bg, og + i * 3 + 1, none⟩ = some (.int .i64 fr) ∧ u.cell? ⟨bg, og + i * 3 + 2, none⟩ = some (.int .i64 tt))) (by kernel_rfl) (HM.out _ WD0.out) (fun hHeld => ?_)
            generalize wr.drew = wd at *
            refine wpAnyH_take (i := 0) (v := ?_) (oper_at (r := _) rfl) (by kernel_rfl) (by kernel_rfl) (by kernel_rfl) (fun _ _ _ h => h) (Or.inl ⟨by rfl, ?_⟩) (by assumption) ?_
            rotate_left
            · intro w hSw; try dsimp only at hSw
              go_simp
              try with_reducible rfl
            try simp only [Act.put, List.setIfInBounds_toArray, List.set_cons_zero, List.set_cons_succ]
            refine wpAnyH_take (i := 1) (v := ?_) (oper_at (r := _) rfl) (by kernel_rfl) (by kernel_rfl) (by kernel_rfl) (fun _ _ _ h => h) (Or.inl ⟨by rfl, ?_⟩) (by assumption) ?_
            rotate_left
            · intro w hSw; try dsimp only at hSw
              go_simp
              try with_reducible rfl
            try simp only [Act.put, List.setIfInBounds_toArray, List.set_cons_zero, List.set_cons_succ]
            refine wpAnyH_take (i := 2) (v := ?_) (oper_at (r := _) rfl) (by kernel_rfl) (by kernel_rfl) (by kernel_rfl) (fun _ _ _ h => h) (Or.inl ⟨by rfl, ?_⟩) (by assumption) ?_
            rotate_left
            · intro w hSw; try dsimp only at hSw
              go_simp
              try with_reducible rfl
            try simp only [Act.put, List.setIfInBounds_toArray, List.set_cons_zero, List.set_cons_succ]
            refine wpAnyH_take (i := 3) (v := ?_) (oper_at (r := _) rfl) (by kernel_rfl) (by kernel_rfl) (by kernel_rfl) (fun _ _ _ h => h) (Or.inl ⟨by rfl, ?_⟩) (by assumption) ?_
            rotate_left
            · intro w hSw; try dsimp only at hSw
              go_simp
              try with_reducible rfl
            try simp only [Act.put, List.setIfInBounds_toArray, List.set_cons_zero, List.set_cons_succ]
            refine wpAnyH_take (i := 4) (v := ?_) (oper_at (r := _) rfl) (by kernel_rfl) (by kernel_rfl) (by kernel_rfl) (fun _ _ _ h => h) (Or.inl ⟨by rfl, ?_⟩) (by assumption) ?_
            rotate_left
            · intro w hSw; try dsimp only at hSw
              go_simp
              try with_reducible rfl
            try simp only [Act.put, List.setIfInBounds_toArray, List.set_cons_zero, List.set_cons_succ]
            refine wpAnyH_take (i := 5) (v := ?_) (oper_at (r := _) rfl) (by kernel_rfl) (by kernel_rfl) (by kernel_rfl) (fun _ _ _ h => h) (Or.inl ⟨by rfl, ?_⟩) (by assumption) ?_
            rotate_left
            · intro w hSw; try dsimp only at hSw
              go_simp
              try with_reducible rfl
            try simp only [Act.put, List.setIfInBounds_toArray, List.set_cons_zero, List.set_cons_succ]
            refine wpAnyH_take (i := 6) (v := ?_) (oper_at (r := _) rfl) (by kernel_rfl) (by kernel_rfl) (by kernel_rfl) (fun _ _ _ h => h) (Or.inl ⟨by rfl, ?_⟩) (by assumption) ?_
            rotate_left
            · intro w hSw; try dsimp only at hSw
              go_simp
              try with_reducible rfl
            try simp only [Act.put, List.setIfInBounds_toArray, List.set_cons_zero, List.set_cons_succ]
            refine wpAnyH_take (i := 7) (v := ?_) (oper_at (r := _) rfl) (by kernel_rfl) (by kernel_rfl) (by kernel_rfl) (fun _ _ _ h => h) (Or.inl ⟨by rfl, ?_⟩) (by assumption) ?_
            rotate_left
            · intro w hSw; try dsimp only at hSw
              go_simp
              try with_reducible rfl
            try simp only [Act.put, List.setIfInBounds_toArray, List.set_cons_zero, List.set_cons_succ]
            refine wpAnyH_take (i := 8) (v := ?_) (oper_at (r := _) rfl) (by kernel_rfl) (by kernel_rfl) (by kernel_rfl) (fun _ _ _ h => h) (Or.inl ⟨by rfl, ?_⟩) (by assumption) ?_
            rotate_left
            · intro w hSw; try dsimp only at hSw
              go_simp
              try with_reducible rfl
            try simp only [Act.put, List.setIfInBounds_toArray, List.set_cons_zero, List.set_cons_succ]
            refine wpAnyH_ready (rs := [9]) (by kernel_rfl) (by simp) ?_
            refine AllReadyH.cons (oper_at (r := _) rfl) (fun K hK => ?_) AllReadyH.nil
            have hx : BX3 wd.heap.size (.int .i64 0) (.int .i64 0) (.int .i64 0) 58 (wd.alloc (.cells #[.int .i64 0, .int .i64 0, .int .i64 0] 58)) := heap_alloc_new _ _
            have hb : Below wd.heap.size wd (wd.alloc (.cells #[.int .i64 0, .int .i64 0, .int .i64 0] 58)) := (Below.refl _ _).alloc (Nat.le_refl _) _
            have HX1 := Lib.hid hx
            have HB1 := Lib.hid hb
            clear hx hb
            go_simp
            refine hK.out _ _ (HM.out _ HB1.out) (fun _ => ?_)
            clear hK K
            try simp only [Act.put, List.setIfInBounds_toArray, List.set_cons_zero, List.set_cons_succ]
            generalize wd.alloc (.cells #[.int .i64 0, .int .i64 0, .int .i64 0] 58) = u1 at *
            obtain ⟨gx, hgx⟩ : ∃ g, g = wd.heap.size := ⟨_, rfl⟩
            have hlg : wd.heap.size ≤ gx := by omega
            have HLG := Lib.hid hlg
            rw [← hgx] at HX1
            rw [← hgx]
            clear hgx hlg
            refine wpAnyH_ready (rs := [10]) (by kernel_rfl) (by simp) ?_
            refine AllReadyH.cons (oper_at (r := _) rfl) (fun K hK => ?_) AllReadyH.nil
            have fr0 : u1.frozen? ⟨gx, 0, none⟩ = false := frozen_of_row _ _ _ _ _ HX1.out
            have fr1 : u1.frozen? ⟨gx, 1, none⟩ = false := frozen_of_row _ _ _ _ _ HX1.out
            have fr2 : u1.frozen? ⟨gx, 2, none⟩ = false := frozen_of_row _ _ _ _ _ HX1.out
            obtain ⟨y0, y1, y2⟩ := HX1.out.cells
            go_simp
            clear fr0 fr1 fr2 y0 y1 y2
            have hx : BX3 gx (.int .i64 ty) (.int .i64 fr) (.int .i64 tt) 58 (((u1.setCell ⟨gx, 0, none⟩ (.int .i64 ty)).setCell ⟨gx, 1, none⟩ (.int .i64 fr)).setCell ⟨gx, 2, none⟩ (.int .i64 tt)) := heap_setCell_same _ gx 2 _ _ _ (heap_setCell_same _ gx 1 _ _ _ (heap_setCell_same _ gx 0 _ _ _ HX1.out))
            have hb : Below wd.heap.size wd (((u1.setCell ⟨gx, 0, none⟩ (.int .i64 ty)).setCell ⟨gx, 1, none⟩ (.int .i64 fr)).setCell ⟨gx, 2, none⟩ (.int .i64 tt)) := ((HB1.out.setCell (p := ⟨gx, 0, none⟩) HLG.out _).setCell (p := ⟨gx, 1, none⟩) HLG.out _).setCell (p := ⟨gx, 2, none⟩) HLG.out _
            have HX2 := Lib.hid hx
            have HB2 := Lib.hid hb
            clear hx hb
            refine hK.out _ _ (HM.out _ HB2.out) (fun _ => ?_)
            clear hK K
            try simp only [Act.put, List.setIfInBounds_toArray, List.set_cons_zero, List.set_cons_succ]
            refine wpAnyH_done (by kernel_rfl) ?_ _
            refine NoPanic.normal ?_
            go_wp2_with fail
            go_meet
            exact ⟨gx, rfl, HX2.out, by rw [← HDS.out]; exact HLG.out, HVD.out.trans (HB2.out.mono HVD.out.size)⟩
          case rest =>
            obtain ⟨gx, rfl, hx, hgx, hb⟩ := hcut
            clear c0 c1 c2 c3 ck d0 d1 d2
            have HNG : Hid (∀ q, (Value.slice ae (CE k).length cpe).ownBlock = some q → q < gx) := Lib.hid fun q h => Nat.lt_of_lt_of_le (HNE.out q h) hgx
            have H8X : Hid (g8 < gx) := Lib.hid (Nat.lt_of_lt_of_le HX.out.lt hgx)
            have hb2 : Below wr.heap.size wr wc.drew := Below.drew hb
            have hb3 : Below wc.heap.size wc wc.drew := below_d wc
            have HX_wd := Lib.hid (HX.out.up hb2)
            have HN_wd := Lib.hid (OwnE.below HN.out hb2 (Nat.le_refl _))
            have HE_wd := Lib.hid (OwnE.below HE.out hb2 (Nat.le_refl _))
            have SR_wd := Lib.hid (HS.out.up hb2)
            have EB_wd := Lib.hid (hx.up hb3)
            have PB_wd : Hid (BX (w.heap.size + 1) (.slice Pn p.ns.length pn) (.slice (some ⟨bp, op, none⟩) p.es.length pe) 27 wc.drew) := Lib.hid (SR_wd.out.2 1 _ rfl)
            clear hx hgx hb hb2 hb3 HX HN HE HS HNE
            go_wp2_with fail
            refine wp_region_noPanic ?_
            refine wp_region_held_drew (S := (fun u : World => u.cell? ⟨w.heap.size + 1, 0, none⟩ = some (.slice Pn p.ns.length pn) ∧ u.cell? ⟨gx, 0, none⟩ = some (.int .i64 ty) ∧ u.cell? ⟨gx, 1, none⟩ = some (.int .i64 fr) ∧ u.cell? ⟨gx, 2, none⟩ = some (.int .i64 tt))) (by kernel_rfl) (⟨PB_wd.out.cells.1, EB_wd.out.cells.1, EB_wd.out.cells.2.1, EB_wd.out.cells.2.2⟩) (fun hHeld => ?_)
            generalize wc.drew = wd at *
            refine wpAnyH_take (i := 0) (v := ?_) (oper_at (r := _) rfl) (by kernel_rfl) (by kernel_rfl) (by kernel_rfl) (fun _ _ _ h => h) (Or.inl ⟨by rfl, ?_⟩) (by assumption) ?_
            rotate_left
            · intro w hSw; try dsimp only at hSw
              go_simp
              try with_reducible rfl
            try simp only [Act.put, List.setIfInBounds_toArray, List.set_cons_zero, List.set_cons_succ]
            refine wpAnyH_take (i := 2) (v := ?_) (oper_at (r := _) rfl) (by kernel_rfl) (by kernel_rfl) (by kernel_rfl) (fun _ _ _ h => h) (Or.inl ⟨by rfl, ?_⟩) (by assumption) ?_
            rotate_left
            · intro w hSw; try dsimp only at hSw
              go_simp
              try with_reducible rfl
            try simp only [Act.put, List.setIfInBounds_toArray, List.set_cons_zero, List.set_cons_succ]
            refine wpAnyH_take (i := 3) (v := ?_) (oper_at (r := _) rfl) (by kernel_rfl) (by kernel_rfl) (by kernel_rfl) (fun _ _ _ h => h) (Or.inl ⟨by rfl, ?_⟩) (by assumption) ?_
            rotate_left
            · intro w hSw; try dsimp only at hSw
              go_simp
              try with_reducible rfl
            try simp only [Act.put, List.setIfInBounds_toArray, List.set_cons_zero, List.set_cons_succ]
            refine wpAnyH_take (i := 4) (v := ?_) (oper_at (r := _) rfl) (by kernel_rfl) (by kernel_rfl) (by kernel_rfl) (fun _ _ _ h => h) (Or.inl ⟨by rfl, ?_⟩) (by assumption) ?_
            rotate_left
            · intro w hSw; try dsimp only at hSw
              go_simp
              try with_reducible rfl
            try simp only [Act.put, List.setIfInBounds_toArray, List.set_cons_zero, List.set_cons_succ]
            refine wpAnyH_take (i := 5) (v := ?_) (oper_at (r := _) rfl) (by kernel_rfl) (by kernel_rfl) (by kernel_rfl) (fun _ _ _ h => h) (Or.inl ⟨by rfl, ?_⟩) (by assumption) ?_
            rotate_left
            · intro w hSw; try dsimp only at hSw
              go_simp
              try with_reducible rfl
            try simp only [Act.put, List.setIfInBounds_toArray, List.set_cons_zero, List.set_cons_succ]
            refine wpAnyH_take (i := 6) (v := ?_) (oper_at (r := _) rfl) (by kernel_rfl) (by kernel_rfl) (by kernel_rfl) (fun _ _ _ h => h) (Or.inl ⟨by rfl, ?_⟩) (by assumption) ?_
            rotate_left
            · intro w hSw; try dsimp only at hSw
              go_simp
              try with_reducible rfl
            try simp only [Act.put, List.setIfInBounds_toArray, List.set_cons_zero, List.set_cons_succ]
            refine wpAnyH_take (i := 7) (v := ?_) (oper_at (r := _) rfl) (by kernel_rfl) (by kernel_rfl) (by kernel_rfl) (fun _ _ _ h => h) (Or.inl ⟨by rfl, ?_⟩) (by assumption) ?_
            rotate_left
            · intro w hSw; try dsimp only at hSw
              go_simp
              try with_reducible rfl
            try simp only [Act.put, List.setIfInBounds_toArray, List.set_cons_zero, List.set_cons_succ]
            refine wpAnyH_take (i := 9) (v := ?_) (oper_at (r := _) rfl) (by kernel_rfl) (by kernel_rfl) (by kernel_rfl) (fun _ _ _ h => h) (Or.inl ⟨by rfl, ?_⟩) (by assumption) ?_
            rotate_left
            · intro w hSw; try dsimp only at hSw
              go_simp
              try with_reducible rfl
            try simp only [Act.put, List.setIfInBounds_toArray, List.set_cons_zero, List.set_cons_succ]
            refine wpAnyH_take (i := 10) (v := ?_) (oper_at (r := _) rfl) (by kernel_rfl) (by kernel_rfl) (by kernel_rfl) (fun _ _ _ h => h) (Or.inl ⟨by rfl, ?_⟩) (by assumption) ?_
            rotate_left
            · intro w hSw; try dsimp only at hSw
              go_simp
              try with_reducible rfl
            try simp only [Act.put, List.setIfInBounds_toArray, List.set_cons_zero, List.set_cons_succ]
            refine wpAnyH_take (i := 11) (v := ?_) (oper_at (r := _) rfl) (by kernel_rfl) (by kernel_rfl) (by kernel_rfl) (fun _ _ _ h => h) (Or.inl ⟨by rfl, ?_⟩) (by assumption) ?_
            rotate_left
            · intro w hSw; try dsimp only at hSw
              go_simp
              try with_reducible rfl
            try simp only [Act.put, List.setIfInBounds_toArray, List.set_cons_zero, List.set_cons_succ]
            refine wpAnyH_take (i := 12) (v := ?_) (oper_at (r := _) rfl) (by kernel_rfl) (by kernel_rfl) (by kernel_rfl) (fun _ _ _ h => h) (Or.inl ⟨by rfl, ?_⟩) (by assumption) ?_
            rotate_left
            · intro w hSw; try dsimp only at hSw
              go_simp
              try with_reducible rfl
            try simp only [Act.put, List.setIfInBounds_toArray, List.set_cons_zero, List.set_cons_succ]
            refine wpAnyH_ready (rs := [1, 8]) (by kernel_rfl) (by simp) ?_
            refine (AllReadyH.cons (oper_at (r := _) rfl) (fun K hK => ?_) (AllReadyH.cons (oper_at (r := _) rfl) (fun K hK => ?_) AllReadyH.nil))
            · skip
              obtain ⟨b0, b1⟩ := HX_wd.out.cells
              go_simp
              clear b0 b1
              refine hK.out _ _ (⟨PB_wd.out.cells.1, EB_wd.out.cells.1, EB_wd.out.cells.2.1, EB_wd.out.cells.2.2⟩) (fun _ => ?_)
              clear hK K
              try simp only [Act.put, List.setIfInBounds_toArray, List.set_cons_zero, List.set_cons_succ]
              refine wpAnyH_ready (rs := [8]) (by kernel_rfl) (by simp) ?_
              refine AllReadyH.cons (oper_at (r := _) rfl) (fun K hK => ?_) AllReadyH.nil
              go_simp
              refine (HI1.out wd SR_wd.out.1).mono ?_
              rintro e w9 ⟨rfl, hw⟩
              rw [hw]
              clear hw
              go_wp2_with fail
              refine hK.out _ _ (⟨PB_wd.out.cells.1, EB_wd.out.cells.1, EB_wd.out.cells.2.1, EB_wd.out.cells.2.2⟩) (fun _ => ?_)
              clear hK K
              try simp only [Act.put, List.setIfInBounds_toArray, List.set_cons_zero, List.set_cons_succ]
              refine wpAnyH_ready (rs := [13]) (by kernel_rfl) (by simp) ?_
              refine AllReadyH.cons (oper_at (r := _) rfl) (fun K hK => ?_) AllReadyH.nil
              go_simp
              refine (HI2.out wd SR_wd.out.1).mono ?_
              rintro e w9 ⟨rfl, hw⟩
              rw [hw]
              clear hw
              go_wp2_with fail
              refine hK.out _ _ (⟨PB_wd.out.cells.1, EB_wd.out.cells.1, EB_wd.out.cells.2.1, EB_wd.out.cells.2.2⟩) (fun _ => ?_)
              clear hK K
              try simp only [Act.put, List.setIfInBounds_toArray, List.set_cons_zero, List.set_cons_succ]
              refine wpAnyH_take (i := 14) (v := ?_) (oper_at (r := _) rfl) (by kernel_rfl) (by kernel_rfl) (by kernel_rfl) (fun _ _ _ h => h) (Or.inl ⟨by rfl, ?_⟩) (by assumption) ?_
              rotate_left
              · intro w hSw; try dsimp only at hSw
                go_simp
                try with_reducible rfl
              try simp only [Act.put, List.setIfInBounds_toArray, List.set_cons_zero, List.set_cons_succ]
              refine wpAnyH_ready (rs := [15]) (by kernel_rfl) (by simp) ?_
              refine AllReadyH.cons (oper_at (r := _) rfl) (fun K hK => ?_) AllReadyH.nil
              obtain ⟨ga, hga⟩ : ∃ g, g = wd.heap.size := ⟨_, rfl⟩
              have hx : (wd.alloc (.cells #[.int .i64 ty, .int .i64 f1, .int .i64 f2] 58)).heap[ga]? = some (.cells #[.int .i64 ty, .int .i64 f1, .int .i64 f2] 58 (0, 0)) := by rw [hga]; exact heap_alloc_new _ _
              have hb : Below wd.heap.size wd (wd.alloc (.cells #[.int .i64 ty, .int .i64 f1, .int .i64 f2] 58)) := (Below.refl _ _).alloc (Nat.le_refl _) _
              have HX_W5 := Lib.hid (HX_wd.out.up hb)
              have PB_W5 := Lib.hid (PB_wd.out.up hb)
              have EB_W5 := Lib.hid (EB_wd.out.up hb)
              have HN_W5 := Lib.hid (OwnE.below HN_wd.out hb (Nat.le_refl _))
              have HE_W5 := Lib.hid (OwnE.below HE_wd.out hb (Nat.le_refl _))
              have SR_W5 := Lib.hid (SR_wd.out.up hb)
              clear HX_wd PB_wd EB_wd HN_wd HE_wd SR_wd
              have LA_W5 := Lib.hid hx
              clear hx hb
              go_simp
              refine hK.out _ _ (⟨PB_W5.out.cells.1, EB_W5.out.cells.1, EB_W5.out.cells.2.1, EB_W5.out.cells.2.2⟩) (fun _ => ?_)
              clear hK K
              try simp only [Act.put, List.setIfInBounds_toArray, List.set_cons_zero, List.set_cons_succ]
              generalize wd.alloc (.cells #[.int .i64 ty, .int .i64 f1, .int .i64 f2] 58) = W5 at *
              try rw [← hga]
              clear hga
              refine wpAnyH_ready (rs := [16]) (by kernel_rfl) (by simp) ?_
              refine AllReadyH.cons (oper_at (r := _) rfl) (fun K hK => ?_) AllReadyH.nil
              refine step_append_E (E := EEd) (by rfl) _ _ 23 58 (by rfl) Tryz.underlying23 infoEd rfl (by decide) (by decide) (g8 + 1) (.slice ae (CE k).length cpe) (CE k) (by rfl) HE_W5.out ⟨ga, 0, none⟩ 1 ⟨ty, f1, f2⟩ (by rfl) (oneE LA_W5.out) (by have := HLN.out; omega) HX_W5.out.lt ?_
              intro v3 W6 ho hgr hb
              have hg := Grow.own HE_W5.out hgr hb
              have HX_W6 := Lib.hid (HX_W5.out.low hb (Nat.lt_succ_self _))
              have PB_W6 := Lib.hid (PB_W5.out.low hb (by have := H8.out; omega))
              have EB_W6 : Hid (BX3 gx (.int .i64 ty) (.int .i64 fr) (.int .i64 tt) 58 W6) := Lib.hid ((hgr.block gx (heap_lt EB_W5.out) (fun e => by have := HNG.out gx e.symm; omega)).trans EB_W5.out)
              have HN_W6 := Lib.hid (hg.row (by decide) HN_W5.out)
              have HE_W6 := Lib.hid (OwnE.cast HY.out.symm ho)
              have SR_W6 := Lib.hid (SR.low SR_W5.out (by have := H8.out; show w.heap.size + 4 ≤ g8 + 1; omega) hb)
              obtain ⟨a3, c3, rfl⟩ := OwnE.slice HE_W6.out
              clear ho hgr hb hg
              refine hK.out _ _ (⟨PB_W6.out.cells.1, EB_W6.out.cells.1, EB_W6.out.cells.2.1, EB_W6.out.cells.2.2⟩) (fun _ => ?_)
              clear hK K
              try simp only [Act.put, List.setIfInBounds_toArray, List.set_cons_zero, List.set_cons_succ]
              refine wpAnyH_take (i := 17) (v := ?_) (oper_at (r := _) rfl) (by kernel_rfl) (by kernel_rfl) (by kernel_rfl) (fun _ _ _ h => h) (Or.inl ⟨by rfl, ?_⟩) (by assumption) ?_
              rotate_left
              · intro w hSw; try dsimp only at hSw
                go_simp
                try with_reducible rfl
              try simp only [Act.put, List.setIfInBounds_toArray, List.set_cons_zero, List.set_cons_succ]
              refine wpAnyH_ready (rs := [18]) (by kernel_rfl) (by simp) ?_
              refine AllReadyH.cons (oper_at (r := _) rfl) (fun K hK => ?_) AllReadyH.nil
              have fr0 := HX_W6.out.free 1
              obtain ⟨e0, e1⟩ := HX_W6.out.cells
              go_simp
              clear fr0 e0 e1
              have HXZ := Lib.hid (HX_W6.out.set1 (.slice a3 (CE (k + 1)).length c3))
              have HNZ := Lib.hid (OwnE.setBox (x := (.slice a3 (CE (k + 1)).length c3)) HN_W6.out HX_W6.out (by decide) 1)
              have HEZ := Lib.hid (OwnE.setBox (x := (.slice a3 (CE (k + 1)).length c3)) HE_W6.out HX_W6.out (by decide) 1)
              have HSZ := Lib.hid (SR_W6.out.far (p := ⟨g8, 1, none⟩) (by have := H8.out; show w.heap.size + 4 ≤ g8; omega) (.slice a3 (CE (k + 1)).length c3))
              have PBZ := Lib.hid (PB_W6.out.aft (k := g8) (by have := H8.out; omega) 1 (.slice a3 (CE (k + 1)).length c3))
              have EBZ : Hid (BX3 gx (.int .i64 ty) (.int .i64 fr) (.int .i64 tt) 58 (W6.setCell ⟨g8, 1, none⟩ (.slice a3 (CE (k + 1)).length c3))) := Lib.hid ((heap_setCell_other _ _ _ _ (by show gx ≠ g8; have := H8X.out; omega)).trans EB_W6.out)
              refine hK.out _ _ (⟨PBZ.out.cells.1, EBZ.out.cells.1, EBZ.out.cells.2.1, EBZ.out.cells.2.2⟩) (fun _ => ?_)
              clear hK K
              try simp only [Act.put, List.setIfInBounds_toArray, List.set_cons_zero, List.set_cons_succ]
              refine wpAnyH_done (by kernel_rfl) ?_ _
              refine NoPanic.normal ?_
              go_wp2_with fail
              go_roundw
              case rel => exact ⟨k + 1, _, HLT.out, by go_num, HXZ.out, HNZ.out, HEZ.out, HSZ.out⟩
              case measure => exact HMS.out
            · skip
              go_simp
              refine (HI1.out wd SR_wd.out.1).mono ?_
              rintro e w9 ⟨rfl, hw⟩
              rw [hw]
              clear hw
              go_wp2_with fail
              refine hK.out _ _ (⟨PB_wd.out.cells.1, EB_wd.out.cells.1, EB_wd.out.cells.2.1, EB_wd.out.cells.2.2⟩) (fun _ => ?_)
              clear hK K
              try simp only [Act.put, List.setIfInBounds_toArray, List.set_cons_zero, List.set_cons_succ]
              refine wpAnyH_ready (rs := [1, 13]) (by kernel_rfl) (by simp) ?_
              refine (AllReadyH.cons (oper_at (r := _) rfl) (fun K hK => ?_) (AllReadyH.cons (oper_at (r := _) rfl) (fun K hK => ?_) AllReadyH.nil))
              · skip
                obtain ⟨b0, b1⟩ := HX_wd.out.cells
                go_simp
                clear b0 b1
                refine hK.out _ _ (⟨PB_wd.out.cells.1, EB_wd.out.cells.1, EB_wd.out.cells.2.1, EB_wd.out.cells.2.2⟩) (fun _ => ?_)
                clear hK K
                try simp only [Act.put, List.setIfInBounds_toArray, List.set_cons_zero, List.set_cons_succ]
                refine wpAnyH_ready (rs := [13]) (by kernel_rfl) (by simp) ?_
                refine AllReadyH.cons (oper_at (r := _) rfl) (fun K hK => ?_) AllReadyH.nil
                go_simp
                refine (HI2.out wd SR_wd.out.1).mono ?_
                rintro e w9 ⟨rfl, hw⟩
                rw [hw]
                clear hw
                go_wp2_with fail
                refine hK.out _ _ (⟨PB_wd.out.cells.1, EB_wd.out.cells.1, EB_wd.out.cells.2.1, EB_wd.out.cells.2.2⟩) (fun _ => ?_)
                clear hK K
                try simp only [Act.put, List.setIfInBounds_toArray, List.set_cons_zero, List.set_cons_succ]
                refine wpAnyH_take (i := 14) (v := ?_) (oper_at (r := _) rfl) (by kernel_rfl) (by kernel_rfl) (by kernel_rfl) (fun _ _ _ h => h) (Or.inl ⟨by rfl, ?_⟩) (by assumption) ?_
                rotate_left
                · intro w hSw; try dsimp only at hSw
                  go_simp
                  try with_reducible rfl
                try simp only [Act.put, List.setIfInBounds_toArray, List.set_cons_zero, List.set_cons_succ]
                refine wpAnyH_ready (rs := [15]) (by kernel_rfl) (by simp) ?_
                refine AllReadyH.cons (oper_at (r := _) rfl) (fun K hK => ?_) AllReadyH.nil
                obtain ⟨ga, hga⟩ : ∃ g, g = wd.heap.size := ⟨_, rfl⟩
                have hx : (wd.alloc (.cells #[.int .i64 ty, .int .i64 f1, .int .i64 f2] 58)).heap[ga]? = some (.cells #[.int .i64 ty, .int .i64 f1, .int .i64 f2] 58 (0, 0)) := by rw [hga]; exact heap_alloc_new _ _
                have hb : Below wd.heap.size wd (wd.alloc (.cells #[.int .i64 ty, .int .i64 f1, .int .i64 f2] 58)) := (Below.refl _ _).alloc (Nat.le_refl _) _
                have HX_W7 := Lib.hid (HX_wd.out.up hb)
                have PB_W7 := Lib.hid (PB_wd.out.up hb)
                have EB_W7 := Lib.hid (EB_wd.out.up hb)
                have HN_W7 := Lib.hid (OwnE.below HN_wd.out hb (Nat.le_refl _))
                have HE_W7 := Lib.hid (OwnE.below HE_wd.out hb (Nat.le_refl _))
                have SR_W7 := Lib.hid (SR_wd.out.up hb)
                clear HX_wd PB_wd EB_wd HN_wd HE_wd SR_wd
                have LA_W7 := Lib.hid hx
                clear hx hb
                go_simp
                refine hK.out _ _ (⟨PB_W7.out.cells.1, EB_W7.out.cells.1, EB_W7.out.cells.2.1, EB_W7.out.cells.2.2⟩) (fun _ => ?_)
                clear hK K
                try simp only [Act.put, List.setIfInBounds_toArray, List.set_cons_zero, List.set_cons_succ]
                generalize wd.alloc (.cells #[.int .i64 ty, .int .i64 f1, .int .i64 f2] 58) = W7 at *
                try rw [← hga]
                clear hga
                refine wpAnyH_ready (rs := [16]) (by kernel_rfl) (by simp) ?_
                refine AllReadyH.cons (oper_at (r := _) rfl) (fun K hK => ?_) AllReadyH.nil
                refine step_append_E (E := EEd) (by rfl) _ _ 23 58 (by rfl) Tryz.underlying23 infoEd rfl (by decide) (by decide) (g8 + 1) (.slice ae (CE k).length cpe) (CE k) (by rfl) HE_W7.out ⟨ga, 0, none⟩ 1 ⟨ty, f1, f2⟩ (by rfl) (oneE LA_W7.out) (by have := HLN.out; omega) HX_W7.out.lt ?_
                intro v3 W8 ho hgr hb
                have hg := Grow.own HE_W7.out hgr hb
                have HX_W8 := Lib.hid (HX_W7.out.low hb (Nat.lt_succ_self _))
                have PB_W8 := Lib.hid (PB_W7.out.low hb (by have := H8.out; omega))
                have EB_W8 : Hid (BX3 gx (.int .i64 ty) (.int .i64 fr) (.int .i64 tt) 58 W8) := Lib.hid ((hgr.block gx (heap_lt EB_W7.out) (fun e => by have := HNG.out gx e.symm; omega)).trans EB_W7.out)
                have HN_W8 := Lib.hid (hg.row (by decide) HN_W7.out)
                have HE_W8 := Lib.hid (OwnE.cast HY.out.symm ho)
                have SR_W8 := Lib.hid (SR.low SR_W7.out (by have := H8.out; show w.heap.size + 4 ≤ g8 + 1; omega) hb)
                obtain ⟨a3, c3, rfl⟩ := OwnE.slice HE_W8.out
                clear ho hgr hb hg
                refine hK.out _ _ (⟨PB_W8.out.cells.1, EB_W8.out.cells.1, EB_W8.out.cells.2.1, EB_W8.out.cells.2.2⟩) (fun _ => ?_)
                clear hK K
                try simp only [Act.put, List.setIfInBounds_toArray, List.set_cons_zero, List.set_cons_succ]
                refine wpAnyH_take (i := 17) (v := ?_) (oper_at (r := _) rfl) (by kernel_rfl) (by kernel_rfl) (by kernel_rfl) (fun _ _ _ h => h) (Or.inl ⟨by rfl, ?_⟩) (by assumption) ?_
                rotate_left
                · intro w hSw; try dsimp only at hSw
                  go_simp
                  try with_reducible rfl
                try simp only [Act.put, List.setIfInBounds_toArray, List.set_cons_zero, List.set_cons_succ]
                refine wpAnyH_ready (rs := [18]) (by kernel_rfl) (by simp) ?_
                refine AllReadyH.cons (oper_at (r := _) rfl) (fun K hK => ?_) AllReadyH.nil
                have fr0 := HX_W8.out.free 1
                obtain ⟨e0, e1⟩ := HX_W8.out.cells
                go_simp
                clear fr0 e0 e1
                have HXZ := Lib.hid (HX_W8.out.set1 (.slice a3 (CE (k + 1)).length c3))
                have HNZ := Lib.hid (OwnE.setBox (x := (.slice a3 (CE (k + 1)).length c3)) HN_W8.out HX_W8.out (by decide) 1)
                have HEZ := Lib.hid (OwnE.setBox (x := (.slice a3 (CE (k + 1)).length c3)) HE_W8.out HX_W8.out (by decide) 1)
                have HSZ := Lib.hid (SR_W8.out.far (p := ⟨g8, 1, none⟩) (by have := H8.out; show w.heap.size + 4 ≤ g8; omega) (.slice a3 (CE (k + 1)).length c3))
                have PBZ := Lib.hid (PB_W8.out.aft (k := g8) (by have := H8.out; omega) 1 (.slice a3 (CE (k + 1)).length c3))
                have EBZ : Hid (BX3 gx (.int .i64 ty) (.int .i64 fr) (.int .i64 tt) 58 (W8.setCell ⟨g8, 1, none⟩ (.slice a3 (CE (k + 1)).length c3))) := Lib.hid ((heap_setCell_other _ _ _ _ (by show gx ≠ g8; have := H8X.out; omega)).trans EB_W8.out)
                refine hK.out _ _ (⟨PBZ.out.cells.1, EBZ.out.cells.1, EBZ.out.cells.2.1, EBZ.out.cells.2.2⟩) (fun _ => ?_)
                clear hK K
                try simp only [Act.put, List.setIfInBounds_toArray, List.set_cons_zero, List.set_cons_succ]
                refine wpAnyH_done (by kernel_rfl) ?_ _
                refine NoPanic.normal ?_
                go_wp2_with fail
                go_roundw
                case rel => exact ⟨k + 1, _, HLT.out, by go_num, HXZ.out, HNZ.out, HEZ.out, HSZ.out⟩
                case measure => exact HMS.out
              · skip
                go_simp
                refine (HI2.out wd SR_wd.out.1).mono ?_
                rintro e w9 ⟨rfl, hw⟩
                rw [hw]
                clear hw
                go_wp2_with fail
                refine hK.out _ _ (⟨PB_wd.out.cells.1, EB_wd.out.cells.1, EB_wd.out.cells.2.1, EB_wd.out.cells.2.2⟩) (fun _ => ?_)
                clear hK K
                try simp only [Act.put, List.setIfInBounds_toArray, List.set_cons_zero, List.set_cons_succ]
                refine wpAnyH_take (i := 14) (v := ?_) (oper_at (r := _) rfl) (by kernel_rfl) (by kernel_rfl) (by kernel_rfl) (fun _ _ _ h => h) (Or.inl ⟨by rfl, ?_⟩) (by assumption) ?_
                rotate_left
                · intro w hSw; try dsimp only at hSw
                  go_simp
                  try with_reducible rfl
                try simp only [Act.put, List.setIfInBounds_toArray, List.set_cons_zero, List.set_cons_succ]
                refine wpAnyH_ready (rs := [1, 15]) (by kernel_rfl) (by simp) ?_
                refine (AllReadyH.cons (oper_at (r := _) rfl) (fun K hK => ?_) (AllReadyH.cons (oper_at (r := _) rfl) (fun K hK => ?_) AllReadyH.nil))
                · skip
                  obtain ⟨b0, b1⟩ := HX_wd.out.cells
                  go_simp
                  clear b0 b1
                  refine hK.out _ _ (⟨PB_wd.out.cells.1, EB_wd.out.cells.1, EB_wd.out.cells.2.1, EB_wd.out.cells.2.2⟩) (fun _ => ?_)
                  clear hK K
                  try simp only [Act.put, List.setIfInBounds_toArray, List.set_cons_zero, List.set_cons_succ]
                  refine wpAnyH_ready (rs := [15]) (by kernel_rfl) (by simp) ?_
                  refine AllReadyH.cons (oper_at (r := _) rfl) (fun K hK => ?_) AllReadyH.nil
                  obtain ⟨ga, hga⟩ : ∃ g, g = wd.heap.size := ⟨_, rfl⟩
                  have hx : (wd.alloc (.cells #[.int .i64 ty, .int .i64 f1, .int .i64 f2] 58)).heap[ga]? = some (.cells #[.int .i64 ty, .int .i64 f1, .int .i64 f2] 58 (0, 0)) := by rw [hga]; exact heap_alloc_new _ _
                  have hb : Below wd.heap.size wd (wd.alloc (.cells #[.int .i64 ty, .int .i64 f1, .int .i64 f2] 58)) := (Below.refl _ _).alloc (Nat.le_refl _) _
                  have HX_W9 := Lib.hid (HX_wd.out.up hb)
                  have PB_W9 := Lib.hid (PB_wd.out.up hb)
                  have EB_W9 := Lib.hid (EB_wd.out.up hb)
                  have HN_W9 := Lib.hid (OwnE.below HN_wd.out hb (Nat.le_refl _))
                  have HE_W9 := Lib.hid (OwnE.below HE_wd.out hb (Nat.le_refl _))
                  have SR_W9 := Lib.hid (SR_wd.out.up hb)
                  clear HX_wd PB_wd EB_wd HN_wd HE_wd SR_wd
                  have LA_W9 := Lib.hid hx
                  clear hx hb
                  go_simp
                  refine hK.out _ _ (⟨PB_W9.out.cells.1, EB_W9.out.cells.1, EB_W9.out.cells.2.1, EB_W9.out.cells.2.2⟩) (fun _ => ?_)
                  clear hK K
                  try simp only [Act.put, List.setIfInBounds_toArray, List.set_cons_zero, List.set_cons_succ]
                  generalize wd.alloc (.cells #[.int .i64 ty, .int .i64 f1, .int .i64 f2] 58) = W9 at *
                  try rw [← hga]
                  clear hga
                  refine wpAnyH_ready (rs := [16]) (by kernel_rfl) (by simp) ?_
                  refine AllReadyH.cons (oper_at (r := _) rfl) (fun K hK => ?_) AllReadyH.nil
                  refine step_append_E (E := EEd) (by rfl) _ _ 23 58 (by rfl) Tryz.underlying23 infoEd rfl (by decide) (by decide) (g8 + 1) (.slice ae (CE k).length cpe) (CE k) (by rfl) HE_W9.out ⟨ga, 0, none⟩ 1 ⟨ty, f1, f2⟩ (by rfl) (oneE LA_W9.out) (by have := HLN.out; omega) HX_W9.out.lt ?_
                  intro v3 W10 ho hgr hb
                  have hg := Grow.own HE_W9.out hgr hb
                  have HX_W10 := Lib.hid (HX_W9.out.low hb (Nat.lt_succ_self _))
                  have PB_W10 := Lib.hid (PB_W9.out.low hb (by have := H8.out; omega))
                  have EB_W10 : Hid (BX3 gx (.int .i64 ty) (.int .i64 fr) (.int .i64 tt) 58 W10) := Lib.hid ((hgr.block gx (heap_lt EB_W9.out) (fun e => by have := HNG.out gx e.symm; omega)).trans EB_W9.out)
                  have HN_W10 := Lib.hid (hg.row (by decide) HN_W9.out)
                  have HE_W10 := Lib.hid (OwnE.cast HY.out.symm ho)
                  have SR_W10 := Lib.hid (SR.low SR_W9.out (by have := H8.out; show w.heap.size + 4 ≤ g8 + 1; omega) hb)
                  obtain ⟨a3, c3, rfl⟩ := OwnE.slice HE_W10.out
                  clear ho hgr hb hg
                  refine hK.out _ _ (⟨PB_W10.out.cells.1, EB_W10.out.cells.1, EB_W10.out.cells.2.1, EB_W10.out.cells.2.2⟩) (fun _ => ?_)
                  clear hK K
                  try simp only [Act.put, List.setIfInBounds_toArray, List.set_cons_zero, List.set_cons_succ]
                  refine wpAnyH_take (i := 17) (v := ?_) (oper_at (r := _) rfl) (by kernel_rfl) (by kernel_rfl) (by kernel_rfl) (fun _ _ _ h => h) (Or.inl ⟨by rfl, ?_⟩) (by assumption) ?_
                  rotate_left
                  · intro w hSw; try dsimp only at hSw
                    go_simp
                    try with_reducible rfl
                  try simp only [Act.put, List.setIfInBounds_toArray, List.set_cons_zero, List.set_cons_succ]
                  refine wpAnyH_ready (rs := [18]) (by kernel_rfl) (by simp) ?_
                  refine AllReadyH.cons (oper_at (r := _) rfl) (fun K hK => ?_) AllReadyH.nil
                  have fr0 := HX_W10.out.free 1
                  obtain ⟨e0, e1⟩ := HX_W10.out.cells
                  go_simp
                  clear fr0 e0 e1
                  have HXZ := Lib.hid (HX_W10.out.set1 (.slice a3 (CE (k + 1)).length c3))
                  have HNZ := Lib.hid (OwnE.setBox (x := (.slice a3 (CE (k + 1)).length c3)) HN_W10.out HX_W10.out (by decide) 1)
                  have HEZ := Lib.hid (OwnE.setBox (x := (.slice a3 (CE (k + 1)).length c3)) HE_W10.out HX_W10.out (by decide) 1)
                  have HSZ := Lib.hid (SR_W10.out.far (p := ⟨g8, 1, none⟩) (by have := H8.out; show w.heap.size + 4 ≤ g8; omega) (.slice a3 (CE (k + 1)).length c3))
                  have PBZ := Lib.hid (PB_W10.out.aft (k := g8) (by have := H8.out; omega) 1 (.slice a3 (CE (k + 1)).length c3))
                  have EBZ : Hid (BX3 gx (.int .i64 ty) (.int .i64 fr) (.int .i64 tt) 58 (W10.setCell ⟨g8, 1, none⟩ (.slice a3 (CE (k + 1)).length c3))) := Lib.hid ((heap_setCell_other _ _ _ _ (by show gx ≠ g8; have := H8X.out; omega)).trans EB_W10.out)
                  refine hK.out _ _ (⟨PBZ.out.cells.1, EBZ.out.cells.1, EBZ.out.cells.2.1, EBZ.out.cells.2.2⟩) (fun _ => ?_)
                  clear hK K
                  try simp only [Act.put, List.setIfInBounds_toArray, List.set_cons_zero, List.set_cons_succ]
                  refine wpAnyH_done (by kernel_rfl) ?_ _
                  refine NoPanic.normal ?_
                  go_wp2_with fail
                  go_roundw
                  case rel => exact ⟨k + 1, _, HLT.out, by go_num, HXZ.out, HNZ.out, HEZ.out, HSZ.out⟩
                  case measure => exact HMS.out
                · skip
                  obtain ⟨ga, hga⟩ : ∃ g, g = wd.heap.size := ⟨_, rfl⟩
                  have hx : (wd.alloc (.cells #[.int .i64 ty, .int .i64 f1, .int .i64 f2] 58)).heap[ga]? = some (.cells #[.int .i64 ty, .int .i64 f1, .int .i64 f2] 58 (0, 0)) := by rw [hga]; exact heap_alloc_new _ _
                  have hb : Below wd.heap.size wd (wd.alloc (.cells #[.int .i64 ty, .int .i64 f1, .int .i64 f2] 58)) := (Below.refl _ _).alloc (Nat.le_refl _) _
                  have HX_W11 := Lib.hid (HX_wd.out.up hb)
                  have PB_W11 := Lib.hid (PB_wd.out.up hb)
                  have EB_W11 := Lib.hid (EB_wd.out.up hb)
                  have HN_W11 := Lib.hid (OwnE.below HN_wd.out hb (Nat.le_refl _))
                  have HE_W11 := Lib.hid (OwnE.below HE_wd.out hb (Nat.le_refl _))
                  have SR_W11 := Lib.hid (SR_wd.out.up hb)
                  clear HX_wd PB_wd EB_wd HN_wd HE_wd SR_wd
                  have LA_W11 := Lib.hid hx
                  clear hx hb
                  go_simp
                  refine hK.out _ _ (⟨PB_W11.out.cells.1, EB_W11.out.cells.1, EB_W11.out.cells.2.1, EB_W11.out.cells.2.2⟩) (fun _ => ?_)
                  clear hK K
                  try simp only [Act.put, List.setIfInBounds_toArray, List.set_cons_zero, List.set_cons_succ]
                  generalize wd.alloc (.cells #[.int .i64 ty, .int .i64 f1, .int .i64 f2] 58) = W11 at *
                  try rw [← hga]
                  clear hga
                  refine wpAnyH_ready (rs := [1]) (by kernel_rfl) (by simp) ?_
                  refine AllReadyH.cons (oper_at (r := _) rfl) (fun K hK => ?_) AllReadyH.nil
                  obtain ⟨b0, b1⟩ := HX_W11.out.cells
                  go_simp
                  clear b0 b1
                  refine hK.out _ _ (⟨PB_W11.out.cells.1, EB_W11.out.cells.1, EB_W11.out.cells.2.1, EB_W11.out.cells.2.2⟩) (fun _ => ?_)
                  clear hK K
                  try simp only [Act.put, List.setIfInBounds_toArray, List.set_cons_zero, List.set_cons_succ]
                  refine wpAnyH_ready (rs := [16]) (by kernel_rfl) (by simp) ?_
                  refine AllReadyH.cons (oper_at (r := _) rfl) (fun K hK => ?_) AllReadyH.nil
                  refine step_append_E (E := EEd) (by rfl) _ _ 23 58 (by rfl) Tryz.underlying23 infoEd rfl (by decide) (by decide) (g8 + 1) (.slice ae (CE k).length cpe) (CE k) (by rfl) HE_W11.out ⟨ga, 0, none⟩ 1 ⟨ty, f1, f2⟩ (by rfl) (oneE LA_W11.out) (by have := HLN.out; omega) HX_W11.out.lt ?_
                  intro v3 W12 ho hgr hb
                  have hg := Grow.own HE_W11.out hgr hb
                  have HX_W12 := Lib.hid (HX_W11.out.low hb (Nat.lt_succ_self _))
                  have PB_W12 := Lib.hid (PB_W11.out.low hb (by have := H8.out; omega))
                  have EB_W12 : Hid (BX3 gx (.int .i64 ty) (.int .i64 fr) (.int .i64 tt) 58 W12) := Lib.hid ((hgr.block gx (heap_lt EB_W11.out) (fun e => by have := HNG.out gx e.symm; omega)).trans EB_W11.out)
                  have HN_W12 := Lib.hid (hg.row (by decide) HN_W11.out)
                  have HE_W12 := Lib.hid (OwnE.cast HY.out.symm ho)
                  have SR_W12 := Lib.hid (SR.low SR_W11.out (by have := H8.out; show w.heap.size + 4 ≤ g8 + 1; omega) hb)
                  obtain ⟨a3, c3, rfl⟩ := OwnE.slice HE_W12.out
                  clear ho hgr hb hg
                  refine hK.out _ _ (⟨PB_W12.out.cells.1, EB_W12.out.cells.1, EB_W12.out.cells.2.1, EB_W12.out.cells.2.2⟩) (fun _ => ?_)
                  clear hK K
                  try simp only [Act.put, List.setIfInBounds_toArray, List.set_cons_zero, List.set_cons_succ]
                  refine wpAnyH_take (i := 17) (v := ?_) (oper_at (r := _) rfl) (by kernel_rfl) (by kernel_rfl) (by kernel_rfl) (fun _ _ _ h => h) (Or.inl ⟨by rfl, ?_⟩) (by assumption) ?_
                  rotate_left
                  · intro w hSw; try dsimp only at hSw
                    go_simp
                    try with_reducible rfl
                  try simp only [Act.put, List.setIfInBounds_toArray, List.set_cons_zero, List.set_cons_succ]
                  refine wpAnyH_ready (rs := [18]) (by kernel_rfl) (by simp) ?_
                  refine AllReadyH.cons (oper_at (r := _) rfl) (fun K hK => ?_) AllReadyH.nil
                  have fr0 := HX_W12.out.free 1
                  obtain ⟨e0, e1⟩ := HX_W12.out.cells
                  go_simp
                  clear fr0 e0 e1
                  have HXZ := Lib.hid (HX_W12.out.set1 (.slice a3 (CE (k + 1)).length c3))
                  have HNZ := Lib.hid (OwnE.setBox (x := (.slice a3 (CE (k + 1)).length c3)) HN_W12.out HX_W12.out (by decide) 1)
                  have HEZ := Lib.hid (OwnE.setBox (x := (.slice a3 (CE (k + 1)).length c3)) HE_W12.out HX_W12.out (by decide) 1)
                  have HSZ := Lib.hid (SR_W12.out.far (p := ⟨g8, 1, none⟩) (by have := H8.out; show w.heap.size + 4 ≤ g8; omega) (.slice a3 (CE (k + 1)).length c3))
                  have PBZ := Lib.hid (PB_W12.out.aft (k := g8) (by have := H8.out; omega) 1 (.slice a3 (CE (k + 1)).length c3))
                  have EBZ : Hid (BX3 gx (.int .i64 ty) (.int .i64 fr) (.int .i64 tt) 58 (W12.setCell ⟨g8, 1, none⟩ (.slice a3 (CE (k + 1)).length c3))) := Lib.hid ((heap_setCell_other _ _ _ _ (by show gx ≠ g8; have := H8X.out; omega)).trans EB_W12.out)
                  refine hK.out _ _ (⟨PBZ.out.cells.1, EBZ.out.cells.1, EBZ.out.cells.2.1, EBZ.out.cells.2.2⟩) (fun _ => ?_)
                  clear hK K
                  try simp only [Act.put, List.setIfInBounds_toArray, List.set_cons_zero, List.set_cons_succ]
                  refine wpAnyH_done (by kernel_rfl) ?_ _
                  refine NoPanic.normal ?_
                  go_wp2_with fail
                  go_roundw
                  case rel => exact ⟨k + 1, _, HLT.out, by go_num, HXZ.out, HNZ.out, HEZ.out, HSZ.out⟩
                  case measure => exact HMS.out
        · have e : k = p.es.length := by omega
          subst e
          clear HCE HE0 HEL HSE HER HRE HGE HIX hlt hk
          generalize CE p.es.length = EE at *
          have HGQ : Hid (GrAt wr ao cap ae cpe (⟨NN, EE⟩ : Gr)) := Lib.hid (by
            obtain ⟨A1, y1, e1, r1, l1, m1⟩ := OwnE.reads_cap HN.out
            obtain ⟨A2, y2, e2, r2, l2, m2⟩ := OwnE.reads_cap HE.out
            injection e1 with e1 _ e1c
            injection e2 with e2 _ e2c
            subst e1 e1c e2 e2c
            exact ⟨r1, r2, ⟨l1, m1⟩, ⟨l2, m2⟩⟩)
          go_upto_region 14 with fail
          clear c2 c3
          have HSD := Lib.hid (HS.out.up (below_d wr))
          have HGD := Lib.hid (HGQ.out.up (below_d wr))
          have HBD := Lib.hid (HX.out.up (below_d wr))
          obtain ⟨c2, c3⟩ := HSD.out.cell (i := 1) rfl
          obtain ⟨c8, c9⟩ := HBD.out.cells
          have HMM : Hid (∀ u, Below wr.drew.heap.size wr.drew u → (fun u : World => u.cell? ⟨w.heap.size + 1, 0, none⟩ = some (.slice Pn p.ns.length pn) ∧ u.cell? ⟨w.heap.size + 1, 1, none⟩ = some (.slice Pe p.es.length pe) ∧ u.cell? ⟨g8, 0, none⟩ = some (.slice ao NN.length cap) ∧ u.cell? ⟨g8, 1, none⟩ = some (.slice ae EE.length cpe)) u) := Lib.hid fun u hu => ⟨cell_up hu c2, cell_up hu c3, cell_up hu c8, cell_up hu c9⟩
          have WD_wd := Lib.hid (Below.refl wr.drew.heap.size wr.drew)
          clear c2 c3 c8 c9 HS HGQ HX HN HE
          refine wp_region_noPanic ?_
          refine wp_region_held_drew (S := (fun u : World => u.cell? ⟨w.heap.size + 1, 0, none⟩ = some (.slice Pn p.ns.length pn) ∧ u.cell? ⟨w.heap.size + 1, 1, none⟩ = some (.slice Pe p.es.length pe) ∧ u.cell? ⟨g8, 0, none⟩ = some (.slice ao NN.length cap) ∧ u.cell? ⟨g8, 1, none⟩ = some (.slice ae EE.length cpe))) (by kernel_rfl) (HMM.out _ WD_wd.out) (fun hHeld => ?_)
          generalize wr.drew = wd at *
          refine wpAnyH_take (i := 0) (v := ?_) (oper_at (r := _) rfl) (by kernel_rfl) (by kernel_rfl) (by kernel_rfl) (fun _ _ _ h => h) (Or.inl ⟨by rfl, ?_⟩) (by assumption) ?_
          rotate_left
          · intro w hSw; try dsimp only at hSw
            go_simp
            try with_reducible rfl
          try simp only [Act.put, List.setIfInBounds_toArray, List.set_cons_zero, List.set_cons_succ]
          refine wpAnyH_take (i := 2) (v := ?_) (oper_at (r := _) rfl) (by kernel_rfl) (by kernel_rfl) (by kernel_rfl) (fun _ _ _ h => h) (Or.inl ⟨by rfl, ?_⟩) (by assumption) ?_
          rotate_left
          · intro w hSw; try dsimp only at hSw
            go_simp
            try with_reducible rfl
          try simp only [Act.put, List.setIfInBounds_toArray, List.set_cons_zero, List.set_cons_succ]
          refine wpAnyH_take (i := 3) (v := ?_) (oper_at (r := _) rfl) (by kernel_rfl) (by kernel_rfl) (by kernel_rfl) (fun _ _ _ h => h) (Or.inl ⟨by rfl, ?_⟩) (by assumption) ?_
          rotate_left
          · intro w hSw; try dsimp only at hSw
            go_simp
            try with_reducible rfl
          try simp only [Act.put, List.setIfInBounds_toArray, List.set_cons_zero, List.set_cons_succ]
          refine wpAnyH_take (i := 6) (v := ?_) (oper_at (r := _) rfl) (by kernel_rfl) (by kernel_rfl) (by kernel_rfl) (fun _ _ _ h => h) (Or.inl ⟨by rfl, ?_⟩) (by assumption) ?_
          rotate_left
          · intro w hSw; try dsimp only at hSw
            go_simp
            try with_reducible rfl
          try simp only [Act.put, List.setIfInBounds_toArray, List.set_cons_zero, List.set_cons_succ]
          refine wpAnyH_take (i := 7) (v := ?_) (oper_at (r := _) rfl) (by kernel_rfl) (by kernel_rfl) (by kernel_rfl) (fun _ _ _ h => h) (Or.inl ⟨by rfl, ?_⟩) (by assumption) ?_
          rotate_left
          · intro w hSw; try dsimp only at hSw
            go_simp
            try with_reducible rfl
          try simp only [Act.put, List.setIfInBounds_toArray, List.set_cons_zero, List.set_cons_succ]
          refine wpAnyH_ready (rs := [1, 5]) (by kernel_rfl) (by simp) ?_
          refine (AllReadyH.cons (oper_at (r := _) rfl) (fun K hK => ?_) (AllReadyH.cons (oper_at (r := _) rfl) (fun K hK => ?_) AllReadyH.nil))
          · skip
            obtain ⟨g1b, hg⟩ : ∃ g, g = wd.heap.size := ⟨_, rfl⟩
            have lg1b : wd.heap.size ≤ g1b := by rw [hg]; exact WD_wd.out.size
            have hx : (wd.alloc (.cells #[] 3)).heap[g1b]? = some (.cells #[] 3 (0, 0)) := by rw [hg]; exact heap_alloc_new _ _
            have hb : Below wd.heap.size wd (wd.alloc (.cells #[] 3)) := (Below.refl _ _).alloc (Nat.le_refl _) _
            have WD_W13 := Lib.hid (WD_wd.out.trans (hb.mono WD_wd.out.size))
            clear WD_wd
            have L1_W13 := Lib.hid hx
            clear hx hb
            go_simp
            refine hK.out _ _ (HMM.out _ WD_W13.out) (fun _ => ?_)
            clear hK K
            try simp only [Act.put, List.setIfInBounds_toArray, List.set_cons_zero, List.set_cons_succ]
            generalize wd.alloc (.cells #[] 3) = W13 at *
            try rw [← hg]
            clear hg
            refine wpAnyH_ready (rs := [4, 5]) (by kernel_rfl) (by simp) ?_
            refine (AllReadyH.cons (oper_at (r := _) rfl) (fun K hK => ?_) (AllReadyH.cons (oper_at (r := _) rfl) (fun K hK => ?_) AllReadyH.nil))
            · skip
              have hrd := HPN.out W13 (HSD.out.1.trans (WD_W13.out.mono HSD.out.1.size))
              refine step_append_many (E := EInt) (by rfl) _ _ 22 3 (by rfl) Tryz.underlying22 infoInt rfl (by decide) (by decide) wd.heap.size (.slice (some ⟨g1b, 0, none⟩) 0 0) [] (by rfl) (OwnE.empty L1_W13.out lg1b) Pn p.ns.length pn W13.heap.size p.ns (by rfl) rfl hrd (by simp) (by have := HPL.out.1; omega) WD_W13.out.size ?_
              intro v5 W14 ho hgr hb hnn
              clear hnn hrd
              have WD_W14 := Lib.hid (WD_W13.out.trans hb)
              obtain ⟨X3, x3, rfl, r9⟩ := OwnE.reads (OwnE.cast (List.nil_append p.ns) ho)
              have R3_W14 := Lib.hid r9
              clear ho hgr hb r9
              refine hK.out _ _ (HMM.out _ WD_W14.out) (fun _ => ?_)
              clear hK K
              try simp only [Act.put, List.setIfInBounds_toArray, List.set_cons_zero, List.set_cons_succ]
              refine wpAnyH_ready (rs := [5]) (by kernel_rfl) (by simp) ?_
              refine AllReadyH.cons (oper_at (r := _) rfl) (fun K hK => ?_) AllReadyH.nil
              obtain ⟨g5b, hg⟩ : ∃ g, g = W14.heap.size := ⟨_, rfl⟩
              have lg5b : wd.heap.size ≤ g5b := by rw [hg]; exact WD_W14.out.size
              have hx : (W14.alloc (.cells #[] 3)).heap[g5b]? = some (.cells #[] 3 (0, 0)) := by rw [hg]; exact heap_alloc_new _ _
              have hb : Below W14.heap.size W14 (W14.alloc (.cells #[] 3)) := (Below.refl _ _).alloc (Nat.le_refl _) _
              have WD_W15 := Lib.hid (WD_W14.out.trans (hb.mono WD_W14.out.size))
              have R3_W15 := Lib.hid (Reads.up R3_W14.out hb)
              clear WD_W14 R3_W14
              have L5_W15 := Lib.hid hx
              clear hx hb
              go_simp
              refine hK.out _ _ (HMM.out _ WD_W15.out) (fun _ => ?_)
              clear hK K
              try simp only [Act.put, List.setIfInBounds_toArray, List.set_cons_zero, List.set_cons_succ]
              generalize W14.alloc (.cells #[] 3) = W15 at *
              try rw [← hg]
              clear hg
              refine wpAnyH_ready (rs := [8]) (by kernel_rfl) (by simp) ?_
              refine AllReadyH.cons (oper_at (r := _) rfl) (fun K hK => ?_) AllReadyH.nil
              have hrd := HPE.out W15 (HSD.out.1.trans (WD_W15.out.mono HSD.out.1.size))
              refine step_append_many (E := EInt) (by rfl) _ _ 22 3 (by rfl) Tryz.underlying22 infoInt rfl (by decide) (by decide) wd.heap.size (.slice (some ⟨g5b, 0, none⟩) 0 0) [] (by rfl) (OwnE.empty L5_W15.out lg5b) Pe p.es.length pe W15.heap.size p.es (by rfl) rfl hrd (by simp) (by have := HPL.out.2; omega) WD_W15.out.size ?_
              intro v5 W16 ho hgr hb hnn
              clear hnn hrd
              have WD_W16 := Lib.hid (WD_W15.out.trans hb)
              have R3_W16 := Lib.hid (ints_kept R3_W15.out L5_W15.out hgr)
              obtain ⟨X4, x4, rfl, r9⟩ := OwnE.reads (OwnE.cast (List.nil_append p.es) ho)
              have R4_W16 := Lib.hid r9
              clear ho hgr hb r9
              refine hK.out _ _ (HMM.out _ WD_W16.out) (fun _ => ?_)
              clear hK K
              try simp only [Act.put, List.setIfInBounds_toArray, List.set_cons_zero, List.set_cons_succ]
              refine wpAnyH_take (i := 9) (v := ?_) (oper_at (r := _) rfl) (by kernel_rfl) (by kernel_rfl) (by kernel_rfl) (fun _ _ _ h => h) (Or.inl ⟨by rfl, ?_⟩) (by assumption) ?_
              rotate_left
              · intro w hSw; try dsimp only at hSw
                go_simp
                try with_reducible rfl
              try simp only [Act.put, List.setIfInBounds_toArray, List.set_cons_zero, List.set_cons_succ]
              have HSW := Lib.hid (HSD.out.up WD_W16.out)
              have HGW := Lib.hid (HGD.out.up WD_W16.out)
              have HBW := Lib.hid (HBD.out.up WD_W16.out)
              have hbx2 : BX (w.heap.size + 2) (.slice none 0 0) (.slice none 0 0) 25 W16 := HSW.out.2 2 _ rfl
              have HG5 := Lib.hid (grAt_set HGW.out hbx2 (.slice ao NN.length cap) (.slice ae EE.length cpe))
              have hS5 := HSW.out.set (i := 2) rfl (.slice ao NN.length cap) (.slice ae EE.length cpe)
              have HB5 := Lib.hid (HBW.out.far (k := w.heap.size + 2) (by have := H8.out; omega) (.slice ao NN.length cap) (.slice ae EE.length cpe))
              have R35 := Lib.hid (ints_set' R3_W16.out hbx2 (.slice ao NN.length cap) (.slice ae EE.length cpe))
              have R45 := Lib.hid (ints_set' R4_W16.out hbx2 (.slice ao NN.length cap) (.slice ae EE.length cpe))
              obtain ⟨c4, c5⟩ := HSW.out.cell (i := 2) rfl
              have fr0 := HSW.out.free (i := 2) rfl 0
              have fr1 := HSW.out.free (i := 2) rfl 1
              have HS5 := Lib.hid hS5
              have HSS5 : Hid ((fun u : World => u.cell? ⟨w.heap.size + 1, 0, none⟩ = some (.slice Pn p.ns.length pn) ∧ u.cell? ⟨w.heap.size + 1, 1, none⟩ = some (.slice Pe p.es.length pe) ∧ u.cell? ⟨g8, 0, none⟩ = some (.slice ao NN.length cap) ∧ u.cell? ⟨g8, 1, none⟩ = some (.slice ae EE.length cpe)) ((W16.setCell ⟨w.heap.size + 2, 0, none⟩ (.slice ao NN.length cap)).setCell ⟨w.heap.size + 2, 1, none⟩ (.slice ae EE.length cpe))) := Lib.hid ⟨(HS5.out.cell (i := 1) rfl).1, (HS5.out.cell (i := 1) rfl).2, HB5.out.cells.1, HB5.out.cells.2⟩
              clear hS5 hbx2 HSW HGW HBW
              refine wpAnyH_ready (rs := [10]) (by kernel_rfl) (by simp) ?_
              refine AllReadyH.cons (oper_at (r := _) rfl) (fun K hK => ?_) AllReadyH.nil
              go_simp
              clear c4 c5 fr0 fr1
              refine hK.out _ _ (HSS5.out) (fun _ => ?_)
              clear hK K
              try simp only [Act.put, List.setIfInBounds_toArray, List.set_cons_zero, List.set_cons_succ]
              generalize ((W16.setCell ⟨w.heap.size + 2, 0, none⟩ (.slice ao NN.length cap)).setCell ⟨w.heap.size + 2, 1, none⟩ (.slice ae EE.length cpe)) = w5 at *
              have hbx3 : BX (w.heap.size + 3) (.slice none 0 0) (.slice none 0 0) 30 w5 := HS5.out.2 3 _ rfl
              have HG7 := Lib.hid (grAt_set HG5.out hbx3 (.slice X3 p.ns.length x3) (.slice X4 p.es.length x4))
              have hS7 := HS5.out.set (i := 3) rfl (.slice X3 p.ns.length x3) (.slice X4 p.es.length x4)
              have HB7 := Lib.hid (HB5.out.far (k := w.heap.size + 3) (by have := H8.out; omega) (.slice X3 p.ns.length x3) (.slice X4 p.es.length x4))
              have R37 := Lib.hid (ints_set' R35.out hbx3 (.slice X3 p.ns.length x3) (.slice X4 p.es.length x4))
              have R47 := Lib.hid (ints_set' R45.out hbx3 (.slice X3 p.ns.length x3) (.slice X4 p.es.length x4))
              obtain ⟨c6, c7⟩ := HS5.out.cell (i := 3) rfl
              have fr0 := HS5.out.free (i := 3) rfl 0
              have fr1 := HS5.out.free (i := 3) rfl 1
              have HS7 := Lib.hid hS7
              have HSS7 : Hid ((fun u : World => u.cell? ⟨w.heap.size + 1, 0, none⟩ = some (.slice Pn p.ns.length pn) ∧ u.cell? ⟨w.heap.size + 1, 1, none⟩ = some (.slice Pe p.es.length pe) ∧ u.cell? ⟨g8, 0, none⟩ = some (.slice ao NN.length cap) ∧ u.cell? ⟨g8, 1, none⟩ = some (.slice ae EE.length cpe)) ((w5.setCell ⟨w.heap.size + 3, 0, none⟩ (.slice X3 p.ns.length x3)).setCell ⟨w.heap.size + 3, 1, none⟩ (.slice X4 p.es.length x4))) := Lib.hid ⟨(HS7.out.cell (i := 1) rfl).1, (HS7.out.cell (i := 1) rfl).2, HB7.out.cells.1, HB7.out.cells.2⟩
              clear hS7 hbx3 HG5 HB5 R35 R45
              refine wpAnyH_ready (rs := [11]) (by kernel_rfl) (by simp) ?_
              refine AllReadyH.cons (oper_at (r := _) rfl) (fun K hK => ?_) AllReadyH.nil
              go_simp
              clear c6 c7 fr0 fr1
              refine hK.out _ _ (HSS7.out) (fun _ => ?_)
              clear hK K
              try simp only [Act.put, List.setIfInBounds_toArray, List.set_cons_zero, List.set_cons_succ]
              refine wpAnyH_take (i := 12) (v := ?_) (oper_at (r := _) rfl) (by kernel_rfl) (by kernel_rfl) (by kernel_rfl) (fun _ _ _ h => h) (Or.inl ⟨by rfl, ?_⟩) (by assumption) ?_
              rotate_left
              · intro w hSw; try dsimp only at hSw
                go_simp
                try with_reducible rfl
              try simp only [Act.put, List.setIfInBounds_toArray, List.set_cons_zero, List.set_cons_succ]
              refine wpAnyH_done (by kernel_rfl) ?_ _
              refine NoPanic.normal ?_
              go_wp2_with fail
              obtain ⟨r0, r1⟩ := HS7.out.cell (i := 2) rfl
              obtain ⟨r2, r3⟩ := HS7.out.cell (i := 3) rfl
              refine bodyPost_ret (v := .tuple #[gval ao NN.length cap ae EE.length cpe, .agg #[.slice X3 p.ns.length x3, .slice X4 p.es.length x4], .int .i64 0]) (by simp [results, Tryz.results9, go_sem, r0, r1, r2, r3]) rfl ?_
              rw [HRG.out, HRP.out, HEE.out, HSU.out]
              unfold ExtPo
              exact ⟨⟨ao, cap, ae, cpe, X3, x3, X4, x4, rfl, HG7.out, R37.out, R47.out, by have := HPL.out.1; unfold maxLen; omega, by have := HPL.out.2; unfold maxLen; omega⟩, HS7.out.1⟩
            · skip
              obtain ⟨g5b, hg⟩ : ∃ g, g = W13.heap.size := ⟨_, rfl⟩
              have lg5b : wd.heap.size ≤ g5b := by rw [hg]; exact WD_W13.out.size
              have hx : (W13.alloc (.cells #[] 3)).heap[g5b]? = some (.cells #[] 3 (0, 0)) := by rw [hg]; exact heap_alloc_new _ _
              have hb : Below W13.heap.size W13 (W13.alloc (.cells #[] 3)) := (Below.refl _ _).alloc (Nat.le_refl _) _
              have nL1L5 : g1b ≠ g5b := by have := heap_lt L1_W13.out; omega
              have WD_W17 := Lib.hid (WD_W13.out.trans (hb.mono WD_W13.out.size))
              have L1_W17 := Lib.hid (heap_up hb L1_W13.out)
              clear WD_W13 L1_W13
              have L5_W17 := Lib.hid hx
              clear hx hb
              go_simp
              refine hK.out _ _ (HMM.out _ WD_W17.out) (fun _ => ?_)
              clear hK K
              try simp only [Act.put, List.setIfInBounds_toArray, List.set_cons_zero, List.set_cons_succ]
              generalize W13.alloc (.cells #[] 3) = W17 at *
              try rw [← hg]
              clear hg
              refine wpAnyH_ready (rs := [4]) (by kernel_rfl) (by simp) ?_
              refine AllReadyH.cons (oper_at (r := _) rfl) (fun K hK => ?_) AllReadyH.nil
              have hrd := HPN.out W17 (HSD.out.1.trans (WD_W17.out.mono HSD.out.1.size))
              refine step_append_many (E := EInt) (by rfl) _ _ 22 3 (by rfl) Tryz.underlying22 infoInt rfl (by decide) (by decide) wd.heap.size (.slice (some ⟨g1b, 0, none⟩) 0 0) [] (by rfl) (OwnE.empty L1_W17.out lg1b) Pn p.ns.length pn W17.heap.size p.ns (by rfl) rfl hrd (by simp) (by have := HPL.out.1; omega) WD_W17.out.size ?_
              intro v5 W18 ho hgr hb hnn
              clear hnn hrd
              have WD_W18 := Lib.hid (WD_W17.out.trans hb)
              have L5_W18 : Hid (W18.heap[g5b]? = _) := Lib.hid ((hgr.block g5b (heap_lt L5_W17.out) (fun e => by have e2 : g5b = g1b := Option.some.inj e; first | exact nL1L5 e2.symm | exact nL5L1 e2)).trans L5_W17.out)
              obtain ⟨X3, x3, rfl, r9⟩ := OwnE.reads (OwnE.cast (List.nil_append p.ns) ho)
              have R3_W18 := Lib.hid r9
              clear ho hgr hb r9
              refine hK.out _ _ (HMM.out _ WD_W18.out) (fun _ => ?_)
              clear hK K
              try simp only [Act.put, List.setIfInBounds_toArray, List.set_cons_zero, List.set_cons_succ]
              refine wpAnyH_ready (rs := [8]) (by kernel_rfl) (by simp) ?_
              refine AllReadyH.cons (oper_at (r := _) rfl) (fun K hK => ?_) AllReadyH.nil
              have hrd := HPE.out W18 (HSD.out.1.trans (WD_W18.out.mono HSD.out.1.size))
              refine step_append_many (E := EInt) (by rfl) _ _ 22 3 (by rfl) Tryz.underlying22 infoInt rfl (by decide) (by decide) wd.heap.size (.slice (some ⟨g5b, 0, none⟩) 0 0) [] (by rfl) (OwnE.empty L5_W18.out lg5b) Pe p.es.length pe W18.heap.size p.es (by rfl) rfl hrd (by simp) (by have := HPL.out.2; omega) WD_W18.out.size ?_
              intro v5 W19 ho hgr hb hnn
              clear hnn hrd
              have WD_W19 := Lib.hid (WD_W18.out.trans hb)
              have R3_W19 := Lib.hid (ints_kept R3_W18.out L5_W18.out hgr)
              obtain ⟨X4, x4, rfl, r9⟩ := OwnE.reads (OwnE.cast (List.nil_append p.es) ho)
              have R4_W19 := Lib.hid r9
              clear ho hgr hb r9
              refine hK.out _ _ (HMM.out _ WD_W19.out) (fun _ => ?_)
              clear hK K
              try simp only [Act.put, List.setIfInBounds_toArray, List.set_cons_zero, List.set_cons_succ]
              refine wpAnyH_take (i := 9) (v := ?_) (oper_at (r := _) rfl) (by kernel_rfl) (by kernel_rfl) (by kernel_rfl) (fun _ _ _ h => h) (Or.inl ⟨by rfl, ?_⟩) (by assumption) ?_
              rotate_left
              · intro w hSw; try dsimp only at hSw
                go_simp
                try with_reducible rfl
              try simp only [Act.put, List.setIfInBounds_toArray, List.set_cons_zero, List.set_cons_succ]
              have HSW := Lib.hid (HSD.out.up WD_W19.out)
              have HGW := Lib.hid (HGD.out.up WD_W19.out)
              have HBW := Lib.hid (HBD.out.up WD_W19.out)
              have hbx2 : BX (w.heap.size + 2) (.slice none 0 0) (.slice none 0 0) 25 W19 := HSW.out.2 2 _ rfl
              have HG5 := Lib.hid (grAt_set HGW.out hbx2 (.slice ao NN.length cap) (.slice ae EE.length cpe))
              have hS5 := HSW.out.set (i := 2) rfl (.slice ao NN.length cap) (.slice ae EE.length cpe)
              have HB5 := Lib.hid (HBW.out.far (k := w.heap.size + 2) (by have := H8.out; omega) (.slice ao NN.length cap) (.slice ae EE.length cpe))
              have R35 := Lib.hid (ints_set' R3_W19.out hbx2 (.slice ao NN.length cap) (.slice ae EE.length cpe))
              have R45 := Lib.hid (ints_set' R4_W19.out hbx2 (.slice ao NN.length cap) (.slice ae EE.length cpe))
              obtain ⟨c4, c5⟩ := HSW.out.cell (i := 2) rfl
              have fr0 := HSW.out.free (i := 2) rfl 0
              have fr1 := HSW.out.free (i := 2) rfl 1
              have HS5 := Lib.hid hS5
              have HSS5 : Hid ((fun u : World => u.cell? ⟨w.heap.size + 1, 0, none⟩ = some (.slice Pn p.ns.length pn) ∧ u.cell? ⟨w.heap.size + 1, 1, none⟩ = some (.slice Pe p.es.length pe) ∧ u.cell? ⟨g8, 0, none⟩ = some (.slice ao NN.length cap) ∧ u.cell? ⟨g8, 1, none⟩ = some (.slice ae EE.length cpe)) ((W19.setCell ⟨w.heap.size + 2, 0, none⟩ (.slice ao NN.length cap)).setCell ⟨w.heap.size + 2, 1, none⟩ (.slice ae EE.length cpe))) := Lib.hid ⟨(HS5.out.cell (i := 1) rfl).1, (HS5.out.cell (i := 1) rfl).2, HB5.out.cells.1, HB5.out.cells.2⟩
              clear hS5 hbx2 HSW HGW HBW
              refine wpAnyH_ready (rs := [10]) (by kernel_rfl) (by simp) ?_
              refine AllReadyH.cons (oper_at (r := _) rfl) (fun K hK => ?_) AllReadyH.nil
              go_simp
              clear c4 c5 fr0 fr1
              refine hK.out _ _ (HSS5.out) (fun _ => ?_)
              clear hK K
              try simp only [Act.put, List.setIfInBounds_toArray, List.set_cons_zero, List.set_cons_succ]
              generalize ((W19.setCell ⟨w.heap.size + 2, 0, none⟩ (.slice ao NN.length cap)).setCell ⟨w.heap.size + 2, 1, none⟩ (.slice ae EE.length cpe)) = w5 at *
              have hbx3 : BX (w.heap.size + 3) (.slice none 0 0) (.slice none 0 0) 30 w5 := HS5.out.2 3 _ rfl
              have HG7 := Lib.hid (grAt_set HG5.out hbx3 (.slice X3 p.ns.length x3) (.slice X4 p.es.length x4))
              have hS7 := HS5.out.set (i := 3) rfl (.slice X3 p.ns.length x3) (.slice X4 p.es.length x4)
              have HB7 := Lib.hid (HB5.out.far (k := w.heap.size + 3) (by have := H8.out; omega) (.slice X3 p.ns.length x3) (.slice X4 p.es.length x4))
              have R37 := Lib.hid (ints_set' R35.out hbx3 (.slice X3 p.ns.length x3) (.slice X4 p.es.length x4))
              have R47 := Lib.hid (ints_set' R45.out hbx3 (.slice X3 p.ns.length x3) (.slice X4 p.es.length x4))
              obtain ⟨c6, c7⟩ := HS5.out.cell (i := 3) rfl
              have fr0 := HS5.out.free (i := 3) rfl 0
              have fr1 := HS5.out.free (i := 3) rfl 1
              have HS7 := Lib.hid hS7
              have HSS7 : Hid ((fun u : World => u.cell? ⟨w.heap.size + 1, 0, none⟩ = some (.slice Pn p.ns.length pn) ∧ u.cell? ⟨w.heap.size + 1, 1, none⟩ = some (.slice Pe p.es.length pe) ∧ u.cell? ⟨g8, 0, none⟩ = some (.slice ao NN.length cap) ∧ u.cell? ⟨g8, 1, none⟩ = some (.slice ae EE.length cpe)) ((w5.setCell ⟨w.heap.size + 3, 0, none⟩ (.slice X3 p.ns.length x3)).setCell ⟨w.heap.size + 3, 1, none⟩ (.slice X4 p.es.length x4))) := Lib.hid ⟨(HS7.out.cell (i := 1) rfl).1, (HS7.out.cell (i := 1) rfl).2, HB7.out.cells.1, HB7.out.cells.2⟩
              clear hS7 hbx3 HG5 HB5 R35 R45
              refine wpAnyH_ready (rs := [11]) (by kernel_rfl) (by simp) ?_
              refine AllReadyH.cons (oper_at (r := _) rfl) (fun K hK => ?_) AllReadyH.nil
              go_simp
              clear c6 c7 fr0 fr1
              refine hK.out _ _ (HSS7.out) (fun _ => ?_)
              clear hK K
              try simp only [Act.put, List.setIfInBounds_toArray, List.set_cons_zero, List.set_cons_succ]
              refine wpAnyH_take (i := 12) (v := ?_) (oper_at (r := _) rfl) (by kernel_rfl) (by kernel_rfl) (by kernel_rfl) (fun _ _ _ h => h) (Or.inl ⟨by rfl, ?_⟩) (by assumption) ?_
              rotate_left
              · intro w hSw; try dsimp only at hSw
                go_simp
                try with_reducible rfl
              try simp only [Act.put, List.setIfInBounds_toArray, List.set_cons_zero, List.set_cons_succ]
              refine wpAnyH_done (by kernel_rfl) ?_ _
              refine NoPanic.normal ?_
              go_wp2_with fail
              obtain ⟨r0, r1⟩ := HS7.out.cell (i := 2) rfl
              obtain ⟨r2, r3⟩ := HS7.out.cell (i := 3) rfl
              refine bodyPost_ret (v := .tuple #[gval ao NN.length cap ae EE.length cpe, .agg #[.slice X3 p.ns.length x3, .slice X4 p.es.length x4], .int .i64 0]) (by simp [results, Tryz.results9, go_sem, r0, r1, r2, r3]) rfl ?_
              rw [HRG.out, HRP.out, HEE.out, HSU.out]
              unfold ExtPo
              exact ⟨⟨ao, cap, ae, cpe, X3, x3, X4, x4, rfl, HG7.out, R37.out, R47.out, by have := HPL.out.1; unfold maxLen; omega, by have := HPL.out.2; unfold maxLen; omega⟩, HS7.out.1⟩
          · skip
            obtain ⟨g5b, hg⟩ : ∃ g, g = wd.heap.size := ⟨_, rfl⟩
            have lg5b : wd.heap.size ≤ g5b := by rw [hg]; exact WD_wd.out.size
            have hx : (wd.alloc (.cells #[] 3)).heap[g5b]? = some (.cells #[] 3 (0, 0)) := by rw [hg]; exact heap_alloc_new _ _
            have hb : Below wd.heap.size wd (wd.alloc (.cells #[] 3)) := (Below.refl _ _).alloc (Nat.le_refl _) _
            have WD_W20 := Lib.hid (WD_wd.out.trans (hb.mono WD_wd.out.size))
            clear WD_wd
            have L5_W20 := Lib.hid hx
            clear hx hb
            go_simp
            refine hK.out _ _ (HMM.out _ WD_W20.out) (fun _ => ?_)
            clear hK K
            try simp only [Act.put, List.setIfInBounds_toArray, List.set_cons_zero, List.set_cons_succ]
            generalize wd.alloc (.cells #[] 3) = W20 at *
            try rw [← hg]
            clear hg
            refine wpAnyH_ready (rs := [1]) (by kernel_rfl) (by simp) ?_
            refine AllReadyH.cons (oper_at (r := _) rfl) (fun K hK => ?_) AllReadyH.nil
            obtain ⟨g1b, hg⟩ : ∃ g, g = W20.heap.size := ⟨_, rfl⟩
            have lg1b : wd.heap.size ≤ g1b := by rw [hg]; exact WD_W20.out.size
            have hx : (W20.alloc (.cells #[] 3)).heap[g1b]? = some (.cells #[] 3 (0, 0)) := by rw [hg]; exact heap_alloc_new _ _
            have hb : Below W20.heap.size W20 (W20.alloc (.cells #[] 3)) := (Below.refl _ _).alloc (Nat.le_refl _) _
            have nL5L1 : g5b ≠ g1b := by have := heap_lt L5_W20.out; omega
            have WD_W21 := Lib.hid (WD_W20.out.trans (hb.mono WD_W20.out.size))
            have L5_W21 := Lib.hid (heap_up hb L5_W20.out)
            clear WD_W20 L5_W20
            have L1_W21 := Lib.hid hx
            clear hx hb
            go_simp
            refine hK.out _ _ (HMM.out _ WD_W21.out) (fun _ => ?_)
            clear hK K
            try simp only [Act.put, List.setIfInBounds_toArray, List.set_cons_zero, List.set_cons_succ]
            generalize W20.alloc (.cells #[] 3) = W21 at *
            try rw [← hg]
            clear hg
            refine wpAnyH_ready (rs := [4]) (by kernel_rfl) (by simp) ?_
            refine AllReadyH.cons (oper_at (r := _) rfl) (fun K hK => ?_) AllReadyH.nil
            have hrd := HPN.out W21 (HSD.out.1.trans (WD_W21.out.mono HSD.out.1.size))
            refine step_append_many (E := EInt) (by rfl) _ _ 22 3 (by rfl) Tryz.underlying22 infoInt rfl (by decide) (by decide) wd.heap.size (.slice (some ⟨g1b, 0, none⟩) 0 0) [] (by rfl) (OwnE.empty L1_W21.out lg1b) Pn p.ns.length pn W21.heap.size p.ns (by rfl) rfl hrd (by simp) (by have := HPL.out.1; omega) WD_W21.out.size ?_
            intro v5 W22 ho hgr hb hnn
            clear hnn hrd
            have WD_W22 := Lib.hid (WD_W21.out.trans hb)
            have L5_W22 : Hid (W22.heap[g5b]? = _) := Lib.hid ((hgr.block g5b (heap_lt L5_W21.out) (fun e => by have e2 : g5b = g1b := Option.some.inj e; first | exact nL1L5 e2.symm | exact nL5L1 e2)).trans L5_W21.out)
            obtain ⟨X3, x3, rfl, r9⟩ := OwnE.reads (OwnE.cast (List.nil_append p.ns) ho)
            have R3_W22 := Lib.hid r9
            clear ho hgr hb r9
            refine hK.out _ _ (HMM.out _ WD_W22.out) (fun _ => ?_)
            clear hK K
            try simp only [Act.put, List.setIfInBounds_toArray, List.set_cons_zero, List.set_cons_succ]
            refine wpAnyH_ready (rs := [8]) (by kernel_rfl) (by simp) ?_
            refine AllReadyH.cons (oper_at (r := _) rfl) (fun K hK => ?_) AllReadyH.nil
            have hrd := HPE.out W22 (HSD.out.1.trans (WD_W22.out.mono HSD.out.1.size))
            refine step_append_many (E := EInt) (by rfl) _ _ 22 3 (by rfl) Tryz.underlying22 infoInt rfl (by decide) (by decide) wd.heap.size (.slice (some ⟨g5b, 0, none⟩) 0 0) [] (by rfl) (OwnE.empty L5_W22.out lg5b) Pe p.es.length pe W22.heap.size p.es (by rfl) rfl hrd (by simp) (by have := HPL.out.2; omega) WD_W22.out.size ?_
            intro v5 W23 ho hgr hb hnn
            clear hnn hrd
            have WD_W23 := Lib.hid (WD_W22.out.trans hb)
            have R3_W23 := Lib.hid (ints_kept R3_W22.out L5_W22.out hgr)
            obtain ⟨X4, x4, rfl, r9⟩ := OwnE.reads (OwnE.cast (List.nil_append p.es) ho)
            have R4_W23 := Lib.hid r9
            clear ho hgr hb r9
            refine hK.out _ _ (HMM.out _ WD_W23.out) (fun _ => ?_)
            clear hK K
            try simp only [Act.put, List.setIfInBounds_toArray, List.set_cons_zero, List.set_cons_succ]
            refine wpAnyH_take (i := 9) (v := ?_) (oper_at (r := _) rfl) (by kernel_rfl) (by kernel_rfl) (by kernel_rfl) (fun _ _ _ h => h) (Or.inl ⟨by rfl, ?_⟩) (by assumption) ?_
            rotate_left
            · intro w hSw; try dsimp only at hSw
              go_simp
              try with_reducible rfl
            try simp only [Act.put, List.setIfInBounds_toArray, List.set_cons_zero, List.set_cons_succ]
            have HSW := Lib.hid (HSD.out.up WD_W23.out)
            have HGW := Lib.hid (HGD.out.up WD_W23.out)
            have HBW := Lib.hid (HBD.out.up WD_W23.out)
            have hbx2 : BX (w.heap.size + 2) (.slice none 0 0) (.slice none 0 0) 25 W23 := HSW.out.2 2 _ rfl
            have HG5 := Lib.hid (grAt_set HGW.out hbx2 (.slice ao NN.length cap) (.slice ae EE.length cpe))
            have hS5 := HSW.out.set (i := 2) rfl (.slice ao NN.length cap) (.slice ae EE.length cpe)
            have HB5 := Lib.hid (HBW.out.far (k := w.heap.size + 2) (by have := H8.out; omega) (.slice ao NN.length cap) (.slice ae EE.length cpe))
            have R35 := Lib.hid (ints_set' R3_W23.out hbx2 (.slice ao NN.length cap) (.slice ae EE.length cpe))
            have R45 := Lib.hid (ints_set' R4_W23.out hbx2 (.slice ao NN.length cap) (.slice ae EE.length cpe))
            obtain ⟨c4, c5⟩ := HSW.out.cell (i := 2) rfl
            have fr0 := HSW.out.free (i := 2) rfl 0
            have fr1 := HSW.out.free (i := 2) rfl 1
            have HS5 := Lib.hid hS5
            have HSS5 : Hid ((fun u : World => u.cell? ⟨w.heap.size + 1, 0, none⟩ = some (.slice Pn p.ns.length pn) ∧ u.cell? ⟨w.heap.size + 1, 1, none⟩ = some (.slice Pe p.es.length pe) ∧ u.cell? ⟨g8, 0, none⟩ = some (.slice ao NN.length cap) ∧ u.cell? ⟨g8, 1, none⟩ = some (.slice ae EE.length cpe)) ((W23.setCell ⟨w.heap.size + 2, 0, none⟩ (.slice ao NN.length cap)).setCell ⟨w.heap.size + 2, 1, none⟩ (.slice ae EE.length cpe))) := Lib.hid ⟨(HS5.out.cell (i := 1) rfl).1, (HS5.out.cell (i := 1) rfl).2, HB5.out.cells.1, HB5.out.cells.2⟩
            clear hS5 hbx2 HSW HGW HBW
            refine wpAnyH_ready (rs := [10]) (by kernel_rfl) (by simp) ?_
            refine AllReadyH.cons (oper_at (r := _) rfl) (fun K hK => ?_) AllReadyH.nil
            go_simp
            clear c4 c5 fr0 fr1
            refine hK.out _ _ (HSS5.out) (fun _ => ?_)
            clear hK K
            try simp only [Act.put, List.setIfInBounds_toArray, List.set_cons_zero, List.set_cons_succ]
            generalize ((W23.setCell ⟨w.heap.size + 2, 0, none⟩ (.slice ao NN.length cap)).setCell ⟨w.heap.size + 2, 1, none⟩ (.slice ae EE.length cpe)) = w5 at *
            have hbx3 : BX (w.heap.size + 3) (.slice none 0 0) (.slice none 0 0) 30 w5 := HS5.out.2 3 _ rfl
            have HG7 := Lib.hid (grAt_set HG5.out hbx3 (.slice X3 p.ns.length x3) (.slice X4 p.es.length x4))
            have hS7 := HS5.out.set (i := 3) rfl (.slice X3 p.ns.length x3) (.slice X4 p.es.length x4)
            have HB7 := Lib.hid (HB5.out.far (k := w.heap.size + 3) (by have := H8.out; omega) (.slice X3 p.ns.length x3) (.slice X4 p.es.length x4))
            have R37 := Lib.hid (ints_set' R35.out hbx3 (.slice X3 p.ns.length x3) (.slice X4 p.es.length x4))
            have R47 := Lib.hid (ints_set' R45.out hbx3 (.slice X3 p.ns.length x3) (.slice X4 p.es.length x4))
            obtain ⟨c6, c7⟩ := HS5.out.cell (i := 3) rfl
            have fr0 := HS5.out.free (i := 3) rfl 0
            have fr1 := HS5.out.free (i := 3) rfl 1
            have HS7 := Lib.hid hS7
            have HSS7 : Hid ((fun u : World => u.cell? ⟨w.heap.size + 1, 0, none⟩ = some (.slice Pn p.ns.length pn) ∧ u.cell? ⟨w.heap.size + 1, 1, none⟩ = some (.slice Pe p.es.length pe) ∧ u.cell? ⟨g8, 0, none⟩ = some (.slice ao NN.length cap) ∧ u.cell? ⟨g8, 1, none⟩ = some (.slice ae EE.length cpe)) ((w5.setCell ⟨w.heap.size + 3, 0, none⟩ (.slice X3 p.ns.length x3)).setCell ⟨w.heap.size + 3, 1, none⟩ (.slice X4 p.es.length x4))) := Lib.hid ⟨(HS7.out.cell (i := 1) rfl).1, (HS7.out.cell (i := 1) rfl).2, HB7.out.cells.1, HB7.out.cells.2⟩
            clear hS7 hbx3 HG5 HB5 R35 R45
            refine wpAnyH_ready (rs := [11]) (by kernel_rfl) (by simp) ?_
            refine AllReadyH.cons (oper_at (r := _) rfl) (fun K hK => ?_) AllReadyH.nil
            go_simp
            clear c6 c7 fr0 fr1
            refine hK.out _ _ (HSS7.out) (fun _ => ?_)
            clear hK K
            try simp only [Act.put, List.setIfInBounds_toArray, List.set_cons_zero, List.set_cons_succ]
            refine wpAnyH_take (i := 12) (v := ?_) (oper_at (r := _) rfl) (by kernel_rfl) (by kernel_rfl) (by kernel_rfl) (fun _ _ _ h => h) (Or.inl ⟨by rfl, ?_⟩) (by assumption) ?_
            rotate_left
            · intro w hSw; try dsimp only at hSw
              go_simp
              try with_reducible rfl
            try simp only [Act.put, List.setIfInBounds_toArray, List.set_cons_zero, List.set_cons_succ]
            refine wpAnyH_done (by kernel_rfl) ?_ _
            refine NoPanic.normal ?_
            go_wp2_with fail
            obtain ⟨r0, r1⟩ := HS7.out.cell (i := 2) rfl
            obtain ⟨r2, r3⟩ := HS7.out.cell (i := 3) rfl
            refine bodyPost_ret (v := .tuple #[gval ao NN.length cap ae EE.length cpe, .agg #[.slice X3 p.ns.length x3, .slice X4 p.es.length x4], .int .i64 0]) (by simp [results, Tryz.results9, go_sem, r0, r1, r2, r3]) rfl ?_
            rw [HRG.out, HRP.out, HEE.out, HSU.out]
            unfold ExtPo
            exact ⟨⟨ao, cap, ae, cpe, X3, x3, X4, x4, rfl, HG7.out, R37.out, R47.out, by have := HPL.out.1; unfold maxLen; omega, by have := HPL.out.2; unfold maxLen; omega⟩, HS7.out.1⟩
end Go.Proofs.YthnhacncnhknnaaGreatDoor