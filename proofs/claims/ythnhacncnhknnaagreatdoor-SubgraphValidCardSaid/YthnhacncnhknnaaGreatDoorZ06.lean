import Derived.Test.YthnhacncnhknnaaGreatDoorZ05
import Derived.Test.YthnhacncnhknnaaGreatDoorZ03
import Derived.Sort.Statements
import Derived.Test.YthnhacncnhknnaaGreatDoorZ04
import Derived.Test.YthnhacncnhknnaaGreatDoorZ01
import Derived.Lib.TrailingZeros
import Derived.Shelf.Spec.TrailingZeros
import Derived.Sort.Grow
import Derived.Test.YthnhacncnhknnaaGreatDoorProg
import Derived.WalkKit
import Derived.WalkSpells
import Derived.WalkLawsBesides
import Derived.Lib.Hide
import Derived.BigQuiet
import Derived.Deep.QuietTactic
import Derived.StillTailTactics
import Derived.IntWalk
import Derived.ArgAppend
import Derived.Test.YthnhacncnhknnaaGreatDoorZ02
import Derived.Shelf.SlSortCmp.WholeK
import Derived.Ground.SlsfProg
import Derived.Ground.NamesProg
import Derived.Sort.OwnSortedInts
/-
  Parts of graphs, the program: Boundary, Extract. Printed by mkg6.py.
-/
namespace Go.Proofs.YthnhacncnhknnaaGreatDoor
open Go.RowKit Go.Shelf

theorem reads_box7 {α : Type} {E : El α} (hE : ∀ x u, u ∈ E.enc x → ∀ a n c, u ≠ .slice a n c) {w w' : World} {B : Nat} {A : Option Addr} {xs : List α} (h : Reads E w B A xs) {g : Nat} {a a' : Option Addr} {n c n' c' : Nat} {t : TypeId} (hb : BX g (.slice a n c) (.slice a' n' c') t w)
    (hk : ∀ k, k ≠ g → w'.heap[k]? = w.heap[k]?) : Reads E w' B A xs := by
  rcases h with h | ⟨b, off, h1, h2, h3⟩
  · exact .inl h
  · refine .inr ⟨b, off, h1, h2, fun i x hx q u hu => ?_⟩
    have hc := h3 i x hx q u hu
    have hne : b ≠ g := fun e => by
      subst e
      rw [cell_of_row _ _ _ _ _ _ hb] at hc
      have hm : u ∈ (#[Value.slice a n c, Value.slice a' n' c'] : Array Value) := Array.mem_of_getElem? hc
      have h9 := hE x u (List.mem_of_getElem? hu)
      simp at hm
      rcases hm with rfl | rfl
      · exact h9 _ _ _ rfl
      · exact h9 _ _ _ rfl
    have e := hk b hne
    unfold World.cell? at hc ⊢
    rw [e]
    exact hc
theorem nsI7 : ∀ x u, u ∈ EInt.enc x → ∀ a n c, u ≠ .slice a n c := fun x u h a n c e => by simp [EInt] at h; rw [h] at e; cases e
theorem nsE7 : ∀ x u, u ∈ EEd.enc x → ∀ a n c, u ≠ .slice a n c := fun x u h a n c e => by simp [EEd] at h; rcases h with h | h | h <;> · rw [h] at e; cases e
theorem grAt_set {w : World} {An : Option Addr} {cn : Nat} {Ae : Option Addr} {ce : Nat} {x : Gr} (h : GrAt w An cn Ae ce x) {g : Nat} {a a' : Option Addr} {n c n' c' : Nat} {t : TypeId} (hb : BX g (.slice a n c) (.slice a' n' c') t w) (y z : Value) : GrAt ((w.setCell ⟨g, 0, none⟩ y).setCell ⟨g, 1, none⟩ z) An cn Ae ce x := by
  have hk : ∀ k, k ≠ g → ((w.setCell ⟨g, 0, none⟩ y).setCell ⟨g, 1, none⟩ z).heap[k]? = w.heap[k]? := fun k hk => (heap_setCell_other _ _ _ _ (by show k ≠ g; exact hk)).trans (heap_setCell_other _ _ _ _ (by show k ≠ g; exact hk))
  have hz : ((w.setCell ⟨g, 0, none⟩ y).setCell ⟨g, 1, none⟩ z).heap.size = w.heap.size := by simp
  exact ⟨by rw [hz]; exact reads_box7 nsI7 h.ns hb hk, by rw [hz]; exact reads_box7 nsE7 h.es hb hk, h.cn, h.ce⟩
theorem missI (l : List Int) (n : Nat) (A : Option Addr) (c : Nat) (w : World) (hl : l.length ≤ 1000) (hn : n ≤ 1000) (hB : Ints w w.heap.size A l) (hs : Asc l) :
    Calls Tryz.prog 26 #[.slice A l.length c, .int .i64 (n : Int)] w fun e w' => (∃ X x, e = .returned (.slice X (mis l n).length x) ∧ Ints w' w'.heap.size X (mis l n)) ∧ Below w.heap.size w w' := by
  refine (missingG_any l n A c w hl hn hB hs).mono ?_
  rintro e w' ⟨v, rfl, ho, hb⟩
  obtain ⟨X, x, rfl, hr⟩ := OwnE.reads ho
  exact ⟨⟨X, x, rfl, hr⟩, hb⟩

set_option maxRecDepth 100000 in
set_option maxHeartbeats 4000000 in
theorem boundaryG_any : BndC 10 := by
  intro g p An cn Ae ce Pn pn Pe pe w hg hp
  have hS0 : SR w [(.slice An g.ns.length cn, .slice Ae g.es.length ce, 25), (.slice Pn p.ns.length pn, .slice Pe p.es.length pe, 27)] ((w.alloc (.cells #[.slice An g.ns.length cn, .slice Ae g.es.length ce] 25)).alloc (.cells #[.slice Pn p.ns.length pn, .slice Pe p.es.length pe] 27)) := SR.push (SR.push (SR.nil w) rfl _ _ _) (by simp) _ _ _
  have HV := Lib.hid (fun (u : World) (hu : Below w.heap.size w u) => validG_any g p An cn Ae ce Pn pn Pe pe u (hg.up hu) (hp.up hu))
  have HMI := Lib.hid (fun (h : Asc p.es ∧ g.es.length ≤ 1000) (u : World) (hu : Below w.heap.size w u) => missI p.es g.es.length Pe pe u hp.le h.2 (Reads.up hp.es hu) h.1)
  have HIN := Lib.hid (fun (h : ∀ x ∈ p.ns, 0 ≤ x) (l : List Int) (hl : l.length ≤ 1000) (hs : Asc l) X x (u : World) (hu : Below w.heap.size w u) (r : Ints u u.heap.size X l) => intersectG_any p.ns l Pn X pn x u hp.ln hl h (Reads.up hp.ns hu) r hs)
  have HGE := Lib.hid (fun (u : World) (hu : Below w.heap.size w u) => Reads.below hg.es hu)
  have HZ : Hid (partE g p = 0 → (Asc p.es ∧ g.es.length ≤ 1000) ∧ (∀ x ∈ p.ns, 0 ≤ x) ∧ (mis p.es g.es.length).length ≤ 80 ∧ bndL g p = andF p.ns (dis (endsOf g (mis p.es g.es.length) (mis p.es g.es.length).length)) p.ns.length) := Lib.hid fun h => by
    obtain ⟨hv, hk⟩ := part_zero.1 h
    obtain ⟨v1, v2, _⟩ := valid_zero hv
    exact ⟨⟨hk.ae, by omega⟩, fun x hx => (hk.rn x hx).1, Nat.le_trans (sel_le _ _) v2, (bnd_is hv hk).symm⟩
  have HI : Hid (bndR g p = if partE g p = 0 then bndL g p else []) := Lib.hid rfl
  have HZR : Hid (∀ x ∈ mis p.es g.es.length, 0 ≤ x ∧ x < g.es.length) := Lib.hid mis_rng
  have HPL := Lib.hid hp.ln
  have HS0 := Lib.hid hS0
  clear hS0 hg hp
  generalize bndR g p = R at *
  generalize partE g p = E at *
  generalize bndL g p = RB at *
  generalize mis p.es g.es.length = xs at *
  have HEL := Lib.hid (fun k => ends_len g xs k)
  have HES := Lib.hid (fun k => ends_succ g xs k)
  go_enter Tryz.func10, Tryz.ntmps10
  obtain ⟨c0, c1⟩ := HS0.out.cell (i := 0) rfl
  obtain ⟨c2, c3⟩ := HS0.out.cell (i := 1) rfl
  simp only [Nat.add_zero] at c0 c1
  go_wp2_with fail
  refine (HV.out _ HS0.out.1).mono ?_
  rintro e w1 ⟨rfl, hb1⟩
  have HS1 := Lib.hid (HS0.out.up hb1)
  clear hb1 HS0 HV c0 c1 c2 c3
  obtain ⟨c0, c1⟩ := HS1.out.cell (i := 0) rfl
  obtain ⟨c2, c3⟩ := HS1.out.cell (i := 1) rfl
  simp only [Nat.add_zero] at c0 c1
  by_cases h1 : E = 0
  case neg =>
    have HR := Lib.hid (show R = [] by rw [HI.out, if_neg h1])
    have t1 : ((E : Int) != 0) = true := by simp; omega
    clear h1
    go_wp2_with fail
    go_ret2
    exact ⟨⟨none, 0, by rw [HR.out]; rfl, by rw [HR.out]; exact .inl rfl, by rw [HR.out]; exact Nat.zero_le _⟩, HS1.out.1⟩
  obtain ⟨z1, z2, z3, z4⟩ := HZ.out h1
  have HR := Lib.hid (show R = andF p.ns (dis (endsOf g xs xs.length)) p.ns.length by rw [HI.out, if_pos h1]; exact z4)
  have HXL := Lib.hid z3
  have HMI2 := Lib.hid (HMI.out z1)
  have HIN2 := Lib.hid (HIN.out z2)
  have t1 : ((E : Int) != 0) = false := by simp; omega
  have HEE := Lib.hid h1
  clear h1 HI HZ z1 z2 z3 z4 HMI HIN
  go_wp2_with fail
  refine (HMI2.out _ HS1.out.1).mono ?_
  rintro e w2 ⟨⟨X0, x0, rfl, hr0⟩, hb2⟩
  have HS2 := Lib.hid (HS1.out.up hb2)
  have HXS := Lib.hid (fun (u : World) (hu : Below w2.heap.size w2 u) => Reads.up hr0 hu)
  have HB0 : Hid (w.heap.size + 2 ≤ w2.heap.size) := Lib.hid (heap_lt (HS2.out.2 1 _ rfl))
  clear hr0 hb2 HS1 HMI2 t1 c0 c1 c2 c3
  go_wp2_with fail
  go_loopw [7, 23] (fun v x wr => ∃ k : Nat, k ≤ xs.length ∧ x = .int .i64 (k : Int) ∧ OwnI wr w2.heap.size v (endsOf g xs k) ∧ Below w2.heap.size w2 wr) (fun _ x _ => xs.length - (intOf x).toNat)
  case atStart => exact ⟨0, Nat.zero_le _, rfl, OwnE.nil _ _ _, Below.refl _ _⟩
  case round =>
    obtain ⟨k, hk, rfl, hown, hbel⟩ := hrel
    have HW := Lib.hid hown
    have HBE := Lib.hid hbel
    have HS := Lib.hid (HS2.out.up hbel)
    have hl9 : (endsOf g xs k).length ≤ 1000 := by
      rw [HEL.out]
      have := HXL.out
      omega
    have HL9 := Lib.hid hl9
    by_cases hlt : k < xs.length
    · obtain ⟨ao, cap, rfl⟩ := OwnE.slice hown
      clear hown hl9
      obtain ⟨b, off, hBe, hb, hc⟩ := Ints.cells (HXS.out _ HBE.out) hlt
      have ck := hc k hlt
      have hx := HZR.out _ (getD_mem (d := (0 : Int)) hlt)
      obtain ⟨q, hq⟩ : ∃ q : Nat, xs.getD k 0 = (q : Int) := ⟨(xs.getD k 0).toNat, by omega⟩
      have HESK := Lib.hid (HES.out k)
      rw [hq] at ck hx HESK
      rw [Int.toNat_natCast] at HESK
      have hqk : q < g.es.length := by omega
      obtain ⟨b2, off2, hAe, hb2, hd⟩ := Eds.cells (HGE.out _ HS.out.1) hqk
      obtain ⟨d0, d1, d2⟩ := hd q hqk
      obtain ⟨c0, c1⟩ := HS.out.cell (i := 0) rfl
      simp only [Nat.add_zero] at c0 c1
      subst hBe hAe
      have i0 : (0 : Int) ≤ (k : Int) := by omega
      have i1 : (k : Int) < (xs.length : Int) := by omega
      have i2 : ((k : Int)).toNat = k := by omega
      have j0 : (0 : Int) ≤ (q : Int) := by omega
      have j1 : (q : Int) < (g.es.length : Int) := by omega
      have j2 : ((q : Int)).toNat = q := by omega
      have i3 : xs.length ≤ 80 := HXL.out
      have HLT := Lib.hid hlt
      have HM : Hid (xs.length - ((k : Int) + 1).toNat < xs.length - ((k : Int)).toNat) := Lib.hid (by omega)
      generalize g.es.getD q default = y at *
      obtain ⟨ty, fr, tt⟩ := y
      dsimp only at d0 d1 d2 HESK
      have HAP : Hid (endsOf g xs k ++ [fr, tt] = endsOf g xs (k + 1)) := Lib.hid HESK.out.symm
      generalize endsOf g xs k = rows at *
      have HSZ := Lib.hid hbel.size
      clear hc hd hx hq hlt hqk d0 HESK hbel
      go_wp2_with fail
      have HMM : Hid (∀ u, Below w2.heap.size wr.drew u → u.cell? ⟨w.heap.size, 1, none⟩ = some (.slice (some ⟨b2, off2, none⟩) g.es.length ce) → (fun u : World => u.cell? ⟨w.heap.size, 1, none⟩ = some (.slice (some ⟨b2, off2, none⟩) g.es.length ce) ∧ u.cell? ⟨b2, off2 + q * 3 + 1, none⟩ = some (.int .i64 fr) ∧ u.cell? ⟨b2, off2 + q * 3 + 2, none⟩ = some (.int .i64 tt)) u) := Lib.hid fun u hu hcell => ⟨hcell, (hu.cell (p := ⟨b2, off2 + q * 3 + 1, none⟩) (Nat.lt_of_lt_of_le hb2 (by have := HB0.out; show w.heap.size ≤ w2.heap.size; omega))).trans d1, (hu.cell (p := ⟨b2, off2 + q * 3 + 2, none⟩) (Nat.lt_of_lt_of_le hb2 (by have := HB0.out; show w.heap.size ≤ w2.heap.size; omega))).trans d2⟩
      have HSD := Lib.hid (HS.out.up (below_d wr))
      have HBED := Lib.hid HBE.out.drew
      have HWD : Hid (OwnI wr.drew w2.heap.size (.slice ao rows.length cap) rows) := Lib.hid HW.out
      have HSZD : Hid (w2.heap.size ≤ wr.drew.heap.size) := Lib.hid HSZ.out
      clear c0 c1 ck d1 d2 HS HW HSZ HBE
      refine wp_region_noPanic ?_
      refine wp_region_held_drew (S := (fun u : World => u.cell? ⟨w.heap.size, 1, none⟩ = some (.slice (some ⟨b2, off2, none⟩) g.es.length ce) ∧ u.cell? ⟨b2, off2 + q * 3 + 1, none⟩ = some (.int .i64 fr) ∧ u.cell? ⟨b2, off2 + q * 3 + 2, none⟩ = some (.int .i64 tt))) (by kernel_rfl) (HMM.out _ (Below.refl _ _) (HSD.out.cell (i := 0) rfl).2) (fun hHeld => ?_)
      generalize wr.drew = wd at *
      refine wpAnyH_take (i := 0) (v := ?_) (oper_at (r := _) rfl) (by kernel_rfl) (by kernel_rfl) (by kernel_rfl) (fun _ _ _ h => h) (Or.inl ⟨by rfl, ?_⟩) (by assumption) ?_
      rotate_left
      · intro w hSw; try dsimp only at hSw
        go_simp
        try with_reducible rfl
      try simp only [Act.put, List.setIfInBounds_toArray, List.set_cons_zero, List.set_cons_succ]
      refine wpAnyH_take (i := 1) (v := ?_) (oper_at (r := _) rfl) (by kernel_rfl) (by kernel_rfl) (by kernel_rfl) (fun _ _ _ h => h) (Or.inl ⟨by rfl, ?_⟩) (by assumption) ?_
      rotate_left
      · intro w hSw; try dsimp only at hSw
        go_simp
        try with_reducible rfl
      try simp only [Act.put, List.setIfInBounds_toArray, List.set_cons_zero, List.set_cons_succ]
      refine wpAnyH_take (i := 2) (v := ?_) (oper_at (r := _) rfl) (by kernel_rfl) (by kernel_rfl) (by kernel_rfl) (fun _ _ _ h => h) (Or.inl ⟨by rfl, ?_⟩) (by assumption) ?_
      rotate_left
      · intro w hSw; try dsimp only at hSw
        go_simp
        try with_reducible rfl
      try simp only [Act.put, List.setIfInBounds_toArray, List.set_cons_zero, List.set_cons_succ]
      refine wpAnyH_take (i := 3) (v := ?_) (oper_at (r := _) rfl) (by kernel_rfl) (by kernel_rfl) (by kernel_rfl) (fun _ _ _ h => h) (Or.inl ⟨by rfl, ?_⟩) (by assumption) ?_
      rotate_left
      · intro w hSw; try dsimp only at hSw
        go_simp
        try with_reducible rfl
      try simp only [Act.put, List.setIfInBounds_toArray, List.set_cons_zero, List.set_cons_succ]
      refine wpAnyH_take (i := 4) (v := ?_) (oper_at (r := _) rfl) (by kernel_rfl) (by kernel_rfl) (by kernel_rfl) (fun _ _ _ h => h) (Or.inl ⟨by rfl, ?_⟩) (by assumption) ?_
      rotate_left
      · intro w hSw; try dsimp only at hSw
        go_simp
        try with_reducible rfl
      try simp only [Act.put, List.setIfInBounds_toArray, List.set_cons_zero, List.set_cons_succ]
      refine wpAnyH_take (i := 5) (v := ?_) (oper_at (r := _) rfl) (by kernel_rfl) (by kernel_rfl) (by kernel_rfl) (fun _ _ _ h => h) (Or.inl ⟨by rfl, ?_⟩) (by assumption) ?_
      rotate_left
      · intro w hSw; try dsimp only at hSw
        go_simp
        try with_reducible rfl
      try simp only [Act.put, List.setIfInBounds_toArray, List.set_cons_zero, List.set_cons_succ]
      refine wpAnyH_take (i := 6) (v := ?_) (oper_at (r := _) rfl) (by kernel_rfl) (by kernel_rfl) (by kernel_rfl) (fun _ _ _ h => h) (Or.inl ⟨by rfl, ?_⟩) (by assumption) ?_
      rotate_left
      · intro w hSw; try dsimp only at hSw
        go_simp
        try with_reducible rfl
      try simp only [Act.put, List.setIfInBounds_toArray, List.set_cons_zero, List.set_cons_succ]
      refine wpAnyH_take (i := 7) (v := ?_) (oper_at (r := _) rfl) (by kernel_rfl) (by kernel_rfl) (by kernel_rfl) (fun _ _ _ h => h) (Or.inl ⟨by rfl, ?_⟩) (by assumption) ?_
      rotate_left
      · intro w hSw; try dsimp only at hSw
        go_simp
        try with_reducible rfl
      try simp only [Act.put, List.setIfInBounds_toArray, List.set_cons_zero, List.set_cons_succ]
      refine wpAnyH_take (i := 8) (v := ?_) (oper_at (r := _) rfl) (by kernel_rfl) (by kernel_rfl) (by kernel_rfl) (fun _ _ _ h => h) (Or.inl ⟨by rfl, ?_⟩) (by assumption) ?_
      rotate_left
      · intro w hSw; try dsimp only at hSw
        go_simp
        try with_reducible rfl
      try simp only [Act.put, List.setIfInBounds_toArray, List.set_cons_zero, List.set_cons_succ]
      refine wpAnyH_take (i := 9) (v := ?_) (oper_at (r := _) rfl) (by kernel_rfl) (by kernel_rfl) (by kernel_rfl) (fun _ _ _ h => h) (Or.inl ⟨by rfl, ?_⟩) (by assumption) ?_
      rotate_left
      · intro w hSw; try dsimp only at hSw
        go_simp
        try with_reducible rfl
      try simp only [Act.put, List.setIfInBounds_toArray, List.set_cons_zero, List.set_cons_succ]
      refine wpAnyH_take (i := 10) (v := ?_) (oper_at (r := _) rfl) (by kernel_rfl) (by kernel_rfl) (by kernel_rfl) (fun _ _ _ h => h) (Or.inl ⟨by rfl, ?_⟩) (by assumption) ?_
      rotate_left
      · intro w hSw; try dsimp only at hSw
        go_simp
        try with_reducible rfl
      try simp only [Act.put, List.setIfInBounds_toArray, List.set_cons_zero, List.set_cons_succ]
      refine wpAnyH_take (i := 11) (v := ?_) (oper_at (r := _) rfl) (by kernel_rfl) (by kernel_rfl) (by kernel_rfl) (fun _ _ _ h => h) (Or.inl ⟨by rfl, ?_⟩) (by assumption) ?_
      rotate_left
      · intro w hSw; try dsimp only at hSw
        go_simp
        try with_reducible rfl
      try simp only [Act.put, List.setIfInBounds_toArray, List.set_cons_zero, List.set_cons_succ]
      refine wpAnyH_take (i := 12) (v := ?_) (oper_at (r := _) rfl) (by kernel_rfl) (by kernel_rfl) (by kernel_rfl) (fun _ _ _ h => h) (Or.inl ⟨by rfl, ?_⟩) (by assumption) ?_
      rotate_left
      · intro w hSw; try dsimp only at hSw
        go_simp
        try with_reducible rfl
      try simp only [Act.put, List.setIfInBounds_toArray, List.set_cons_zero, List.set_cons_succ]
      refine wpAnyH_ready (rs := [13]) (by kernel_rfl) (by simp) ?_
      refine AllReadyH.cons (oper_at (r := _) rfl) (fun K hK => ?_) AllReadyH.nil
      have hba : Below wd.heap.size wd (wd.alloc (.cells #[.int .i64 fr, .int .i64 tt] 3)) := (Below.refl _ _).alloc (Nat.le_refl _) _
      have HBA := Lib.hid (hba.mono HSZD.out)
      have HSA := Lib.hid (HSD.out.up hba)
      have HWA := Lib.hid (HWD.out.alloc (.cells #[.int .i64 fr, .int .i64 tt] 3))
      have HRA := Lib.hid (two_cells (w := wd) (a := fr) (b := tt))
      have HSZA : Hid (w2.heap.size ≤ (wd.alloc (.cells #[.int .i64 fr, .int .i64 tt] 3)).heap.size) := Lib.hid (Nat.le_trans HSZD.out hba.size)
      clear hba
      go_simp
      refine hK.out _ _ (HMM.out _ HBA.out (HSA.out.cell (i := 0) rfl).2) (fun _ => ?_)
      clear hK K
      try simp only [Act.put, List.setIfInBounds_toArray, List.set_cons_zero, List.set_cons_succ]
      generalize wd.alloc (.cells #[.int .i64 fr, .int .i64 tt] 3) = wa at *
      generalize wd.heap.size = gz at *
      refine wpAnyH_ready (rs := [14]) (by kernel_rfl) (by simp) ?_
      refine AllReadyH.cons (oper_at (r := _) rfl) (fun K hK => ?_) AllReadyH.nil
      refine step_append_many (E := EInt) (by rfl) _ _ 22 3 (by rfl) Tryz.underlying22 infoInt rfl (by decide) (by decide) w2.heap.size (.slice ao rows.length cap) rows (by rfl) HWA.out (some ⟨gz, 0, none⟩) 2 2 wa.heap.size [fr, tt] (by rfl) rfl HRA.out (by have := HL9.out; omega) (by omega) HSZA.out ?_
      intro v5 w5 ho hgr hb5 _
      have HS5 := Lib.hid (SR.low HSA.out HB0.out hb5)
      have HW5 := Lib.hid (OwnE.cast HAP.out ho)
      have HBW5 := Lib.hid (HBA.out.trans hb5)
      have HBE5 := Lib.hid (HBED.out.trans HBW5.out)
      clear ho hgr hb5
      refine hK.out _ _ (HMM.out _ HBW5.out (HS5.out.cell (i := 0) rfl).2) (fun _ => ?_)
      clear hK K
      try simp only [Act.put, List.setIfInBounds_toArray, List.set_cons_zero, List.set_cons_succ]
      refine wpAnyH_take (i := 15) (v := ?_) (oper_at (r := _) rfl) (by kernel_rfl) (by kernel_rfl) (by kernel_rfl) (fun _ _ _ h => h) (Or.inl ⟨by rfl, ?_⟩) (by assumption) ?_
      rotate_left
      · intro w hSw; try dsimp only at hSw
        go_simp
        try with_reducible rfl
      try simp only [Act.put, List.setIfInBounds_toArray, List.set_cons_zero, List.set_cons_succ]
      refine wpAnyH_done (by kernel_rfl) ?_ _
      refine NoPanic.normal ?_
      go_wp2_with fail
      go_roundw
      case rel => exact ⟨k + 1, HLT.out, by go_num, HW5.out, HBE5.out⟩
      case measure => exact HM.out
    · have e : k = xs.length := by omega
      subst e
      clear hown hl9 hbel
      generalize hrw : endsOf g xs xs.length = rows at *
      clear hrw
      obtain ⟨X, x, rfl, hrd⟩ := OwnE.reads HW.out
      have HRD := Lib.hid (fun (u : World) (hu : Below wr.heap.size wr u) => distinctD_any rows X x u HL9.out (Reads.up hrd hu))
      have HDL := Lib.hid (Nat.le_trans (dis_len rows) HL9.out)
      have HDA := Lib.hid (dis_asc rows)
      clear hrd
      obtain ⟨c2, c3⟩ := HS.out.cell (i := 1) rfl
      generalize dis rows = ds at *
      go_wp2_with fail
      have HMM : Hid (∀ u, Below wr.drew.heap.size wr.drew u → (fun u : World => u.cell? ⟨w.heap.size + 1, 0, none⟩ = some (.slice Pn p.ns.length pn)) u) := Lib.hid fun u hu => cell_up hu c2
      have HSD := Lib.hid (HS.out.up (below_d wr))
      have WDR := Lib.hid (below_d wr)
      have WD0 := Lib.hid (Below.refl wr.drew.heap.size wr.drew)
      clear c2 c3 HS
      refine wp_region_noPanic ?_
      refine wp_region_held_drew (S := (fun u : World => u.cell? ⟨w.heap.size + 1, 0, none⟩ = some (.slice Pn p.ns.length pn))) (by kernel_rfl) (HMM.out _ WD0.out) (fun hHeld => ?_)
      generalize wr.drew = wd at *
      refine wpAnyH_take (i := 0) (v := ?_) (oper_at (r := _) rfl) (by kernel_rfl) (by kernel_rfl) (by kernel_rfl) (fun _ _ _ h => h) (Or.inl ⟨by rfl, ?_⟩) (by assumption) ?_
      rotate_left
      · intro w hSw; try dsimp only at hSw
        go_simp
        try with_reducible rfl
      try simp only [Act.put, List.setIfInBounds_toArray, List.set_cons_zero, List.set_cons_succ]
      refine wpAnyH_take (i := 1) (v := ?_) (oper_at (r := _) rfl) (by kernel_rfl) (by kernel_rfl) (by kernel_rfl) (fun _ _ _ h => h) (Or.inl ⟨by rfl, ?_⟩) (by assumption) ?_
      rotate_left
      · intro w hSw; try dsimp only at hSw
        go_simp
        try with_reducible rfl
      try simp only [Act.put, List.setIfInBounds_toArray, List.set_cons_zero, List.set_cons_succ]
      refine wpAnyH_take (i := 2) (v := ?_) (oper_at (r := _) rfl) (by kernel_rfl) (by kernel_rfl) (by kernel_rfl) (fun _ _ _ h => h) (Or.inl ⟨by rfl, ?_⟩) (by assumption) ?_
      rotate_left
      · intro w hSw; try dsimp only at hSw
        go_simp
        try with_reducible rfl
      try simp only [Act.put, List.setIfInBounds_toArray, List.set_cons_zero, List.set_cons_succ]
      refine wpAnyH_ready (rs := [3]) (by kernel_rfl) (by simp) ?_
      refine AllReadyH.cons (oper_at (r := _) rfl) (fun K hK => ?_) AllReadyH.nil
      go_simp
      refine (HRD.out _ WDR.out).mono ?_
      rintro e w3 ⟨v3, rfl, ho3, hb3⟩
      obtain ⟨X3, x3, rfl, hr3⟩ := OwnE.reads ho3
      have HR3 := Lib.hid hr3
      have HS3 := Lib.hid (HSD.out.up hb3)
      have WD3 := Lib.hid hb3
      clear ho3 hr3 hb3 HSD
      go_wp2_with fail
      refine hK.out _ _ (HMM.out _ WD3.out) (fun _ => ?_)
      clear hK K
      try simp only [Act.put, List.setIfInBounds_toArray, List.set_cons_zero, List.set_cons_succ]
      refine wpAnyH_ready (rs := [4]) (by kernel_rfl) (by simp) ?_
      refine AllReadyH.cons (oper_at (r := _) rfl) (fun K hK => ?_) AllReadyH.nil
      go_simp
      refine (HIN2.out _ HDL.out HDA.out X3 x3 _ HS3.out.1 HR3.out).mono ?_
      rintro e w4 ⟨v4, rfl, ho4, hb4⟩
      have HO4 := Lib.hid ho4
      have WD4 := Lib.hid (WD3.out.trans (hb4.mono WD3.out.size))
      have HS4 := Lib.hid (HS3.out.up hb4)
      have HQ : Hid ((andF p.ns ds p.ns.length).length ≤ 1000) := Lib.hid (Nat.le_trans (andF_le _ _ _) HPL.out)
      clear ho4 hb4
      generalize andF p.ns ds p.ns.length = rr at *
      obtain ⟨X4, x4, rfl, hr4⟩ := OwnE.reads HO4.out
      have HR4 := Lib.hid hr4
      clear hr4
      go_wp2_with fail
      refine hK.out _ _ (HMM.out _ WD4.out) (fun _ => ?_)
      clear hK K
      try simp only [Act.put, List.setIfInBounds_toArray, List.set_cons_zero, List.set_cons_succ]
      refine wpAnyH_take (i := 5) (v := ?_) (oper_at (r := _) rfl) (by kernel_rfl) (by kernel_rfl) (by kernel_rfl) (fun _ _ _ h => h) (Or.inl ⟨by rfl, ?_⟩) (by assumption) ?_
      rotate_left
      · intro w hSw; try dsimp only at hSw
        go_simp
        try with_reducible rfl
      try simp only [Act.put, List.setIfInBounds_toArray, List.set_cons_zero, List.set_cons_succ]
      refine wpAnyH_take (i := 6) (v := ?_) (oper_at (r := _) rfl) (by kernel_rfl) (by kernel_rfl) (by kernel_rfl) (fun _ _ _ h => h) (Or.inl ⟨by rfl, ?_⟩) (by assumption) ?_
      rotate_left
      · intro w hSw; try dsimp only at hSw
        go_simp
        try with_reducible rfl
      try simp only [Act.put, List.setIfInBounds_toArray, List.set_cons_zero, List.set_cons_succ]
      refine wpAnyH_done (by kernel_rfl) ?_ _
      refine NoPanic.normal ?_
      go_wp2_with fail
      go_ret2
      exact ⟨⟨X4, x4, by rw [HR.out, HEE.out]; rfl, by rw [HR.out]; exact HR4.out, by rw [HR.out]; have := HQ.out; unfold maxLen; omega⟩, HS4.out.1⟩

end Go.Proofs.YthnhacncnhknnaaGreatDoor

/-
  All parts, as the program lists them: by the bits of two numbers, then sorted by its own comparison; and that this is the list of all parts in order.
-/
namespace Go.Proofs.YthnhacncnhknnaaGreatDoor

def cmpI (a b : Int) : Int := if a < b then -1 else if b < a then 1 else 0
/-- numbers of two lists, one after another -/
def cmpS : List Int → List Int → Int
  | x :: r, y :: s => if cmpI x y ≠ 0 then cmpI x y else cmpS r s
  | [], [] => 0
  | [], _ :: _ => -1
  | _ :: _, [] => 1
/-- the first one that is not zero -/
def fst0 : List Int → Int
  | [] => 0
  | x :: r => if x ≠ 0 then x else fst0 r
def cmpV (p q : Mo) : List Int := [cmpI p.ns.length q.ns.length, cmpS p.ns q.ns, cmpI p.es.length q.es.length, cmpS p.es q.es]
def cmpG (p q : Mo) : Int := fst0 (cmpV p q)
theorem cmpI_sgn (a b : Int) : (cmpI a b < 0 ↔ a < b) ∧ (cmpI a b = 0 ↔ a = b) := by
  unfold cmpI
  constructor <;> constructor <;> intro h
  · split at h
    · assumption
    · split at h <;> omega
  · rw [if_pos h]; omega
  · split at h
    · omega
    · split at h <;> omega
  · subst h; rw [if_neg (by omega), if_neg (by omega)]
theorem cmpS_sgn : ∀ {a b : List Int}, a.length = b.length → (cmpS a b < 0 ↔ fstD a b < 0) ∧ (cmpS a b = 0 ↔ fstD a b = 0)
  | [], [], _ => ⟨Iff.rfl, Iff.rfl⟩
  | [], _ :: _, h => by simp at h
  | _ :: _, [], h => by simp at h
  | x :: r, y :: s, h => by
    obtain ⟨c1, c2⟩ := cmpI_sgn x y
    have ih := cmpS_sgn (a := r) (b := s) (by simpa using h)
    simp only [cmpS, fstD]
    by_cases e : x = y
    · rw [if_neg (fun hn => hn (c2.2 e)), if_neg (fun hn => hn e)]; exact ih
    · rw [if_pos (fun hn => e (c2.1 hn)), if_pos e]
      exact ⟨c1.trans (by omega), c2.trans (by omega)⟩
theorem fst0_two (x y : Int) : fst0 [x, y] = if x ≠ 0 then x else y := by
  simp only [fst0]
  by_cases h : y = 0 <;> simp [h]
theorem cmp_two (a b : List Int) : (fst0 [cmpI a.length b.length, cmpS a b] < 0 ↔ cmpL a b < 0) ∧ (fst0 [cmpI a.length b.length, cmpS a b] = 0 ↔ cmpL a b = 0) := by
  obtain ⟨c1, c2⟩ := cmpI_sgn a.length b.length
  rw [fst0_two]
  by_cases e : a.length = b.length
  · have h1 : cmpL a b = fstD a b := if_neg (fun hn => hn e)
    have h2 : ¬ cmpI a.length b.length ≠ 0 := fun hn => hn (c2.2 (by omega))
    rw [if_neg h2, h1]
    exact cmpS_sgn e
  · have h1 : cmpL a b = (a.length : Int) - b.length := if_pos e
    have h2 : cmpI a.length b.length ≠ 0 := fun hn => e (by have := c2.1 hn; omega)
    rw [if_pos h2, h1]
    exact ⟨c1.trans (by omega), c2.trans (by omega)⟩
theorem fst0_app (a b c d : Int) : fst0 [a, b, c, d] = if fst0 [a, b] ≠ 0 then fst0 [a, b] else fst0 [c, d] := by
  simp only [fst0]
  by_cases ha : a = 0
  · by_cases hb : b = 0
    · simp [ha, hb]
    · simp [ha, hb]
  · simp [ha]
theorem cmpG_sgn (p q : Mo) : cmpG p q < 0 ↔ cmpP p q < 0 := by
  unfold cmpG cmpV cmpP
  rw [fst0_app]
  obtain ⟨a1, a2⟩ := cmp_two p.ns q.ns
  obtain ⟨b1, b2⟩ := cmp_two p.es q.es
  by_cases z : cmpL p.ns q.ns = 0
  · rw [if_neg (fun hn => hn (a2.2 z)), if_neg (fun hn => hn z)]; exact b1
  · rw [if_pos (fun hn => z (a2.1 hn)), if_pos z]; exact a1
theorem cmpP_nlt {p q r : Mo} (h : ¬ cmpP p q < 0) (k : ¬ cmpP q r < 0) : ¬ cmpP p r < 0 := fun h3 => by
  have t1 := cmpP_turn p q
  have t2 := cmpP_turn q r
  by_cases z1 : cmpP p q = 0
  · rw [cmpP_zero z1] at h3; exact k h3
  · by_cases z2 : cmpP q r = 0
    · rw [← cmpP_zero z2] at h3; exact h h3
    · have := cmpP_trans (show cmpP r q < 0 by omega) (show cmpP q p < 0 by omega)
      have t3 := cmpP_turn p r
      omega
/-- parts that come by number are compared as a sort asks -/
theorem cmp_swo {ι : Type} (f : ι → Mo) : Sort.SWO (fun i j => decide (cmpG (f i) (f j) < 0)) where
  irrefl x := by rw [decide_eq_false_iff_not, cmpG_sgn, cmpP_self]; omega
  trans x y z h1 h2 := by
    rw [decide_eq_true_iff, cmpG_sgn] at *
    exact cmpP_trans h1 h2
  ntrans x y z h1 h2 := by
    rw [decide_eq_false_iff_not, cmpG_sgn] at *
    exact cmpP_nlt h1 h2

/-! all parts by the bits of two numbers -/
def bP (g : Gr) (a b : Nat) : Mo := ⟨sel (fun i => a.testBit i) g.ns.length, sel (fun i => b.testBit i) g.es.length⟩
def inA (g : Gr) (a k : Nat) : List Mo := coll (fun b => if rightE g (bP g a b) = 0 then [bP g a b] else []) k
def outA (g : Gr) (k : Nat) : List Mo := coll (fun a => inA g a (2 ^ g.es.length)) k
theorem inA_mem {g : Gr} {a k : Nat} {p : Mo} : p ∈ inA g a k ↔ ∃ b, b < k ∧ rightE g (bP g a b) = 0 ∧ p = bP g a b := by
  unfold inA
  rw [coll_mem]
  constructor
  · rintro ⟨b, hb, h⟩
    by_cases hr : rightE g (bP g a b) = 0
    · rw [if_pos hr, List.mem_singleton] at h; exact ⟨b, hb, hr, h⟩
    · rw [if_neg hr] at h; simp at h
  · rintro ⟨b, hb, hr, rfl⟩; exact ⟨b, hb, by rw [if_pos hr]; simp⟩
theorem outA_mem {g : Gr} {p : Mo} : p ∈ outA g (2 ^ g.ns.length) ↔ PartOk g p := by
  unfold outA
  rw [coll_mem]
  constructor
  · rintro ⟨a, _, h⟩
    obtain ⟨b, _, hr, rfl⟩ := inA_mem.1 h
    exact right_zero.1 hr
  · intro h
    obtain ⟨a, ha, h1⟩ := num_of (inB p.ns) g.ns.length
    obtain ⟨b, hb, h2⟩ := num_of (inB p.es) g.es.length
    have e : p = bP g a b := by
      have e1 : p.ns = sel (fun i => a.testBit i) g.ns.length := asc_eq_sel h.an h.rn fun i hi => by rw [h1 i hi, inB_iff]
      have e2 : p.es = sel (fun i => b.testBit i) g.es.length := asc_eq_sel h.ae h.re fun i hi => by rw [h2 i hi, inB_iff]
      cases p
      simp only at e1 e2
      unfold bP
      rw [← e1, ← e2]
    exact ⟨a, ha, inA_mem.2 ⟨b, hb, by rw [← e]; exact right_zero.2 h, e⟩⟩
theorem bits_inj {n a b : Nat} (ha : a < 2 ^ n) (hb : b < 2 ^ n) (h : sel (fun i => a.testBit i) n = sel (fun i => b.testBit i) n) : a = b := by
  apply Nat.eq_of_testBit_eq
  intro i
  by_cases hi : i < n
  · rw [Bool.eq_iff_iff]
    have x := sel_has (f := fun i => a.testBit i) (n := n) (i := i)
    have y := sel_has (f := fun i => b.testBit i) (n := n) (i := i)
    rw [h] at x
    exact ⟨fun z => (y.1 (x.2 ⟨hi, z⟩)).2, fun z => (x.1 (y.2 ⟨hi, z⟩)).2⟩
  · have hm : 2 ^ n ≤ 2 ^ i := Nat.pow_le_pow_right (by omega) (by omega)
    rw [Nat.testBit_lt_two_pow (by omega), Nat.testBit_lt_two_pow (by omega)]
theorem inA_nodup {g : Gr} {a k : Nat} (hk : k ≤ 2 ^ g.es.length) : (inA g a k).Nodup := by
  induction k with
  | zero => exact List.nodup_nil
  | succ k ih =>
    show (inA g a k ++ if rightE g (bP g a k) = 0 then [bP g a k] else []).Nodup
    rw [List.nodup_append]
    refine ⟨ih (by omega), by split <;> simp, fun x hx y hy => ?_⟩
    obtain ⟨b, hb, _, rfl⟩ := inA_mem.1 hx
    split at hy
    · rw [List.mem_singleton] at hy
      subst hy
      intro e
      have := bits_inj (by omega) (by omega) (congrArg Mo.es e)
      omega
    · simp at hy
theorem outA_nodup {g : Gr} {k : Nat} (hk : k ≤ 2 ^ g.ns.length) : (outA g k).Nodup := by
  induction k with
  | zero => exact List.nodup_nil
  | succ k ih =>
    show (outA g k ++ _).Nodup
    rw [List.nodup_append]
    refine ⟨ih (by omega), inA_nodup (Nat.le_refl _), fun x hx y hy => ?_⟩
    unfold outA at hx
    rw [coll_mem] at hx
    obtain ⟨a, ha, hx⟩ := hx
    obtain ⟨b, _, _, rfl⟩ := inA_mem.1 hx
    obtain ⟨c, _, _, rfl⟩ := inA_mem.1 hy
    intro e
    have := bits_inj (by omega) (by omega) (congrArg Mo.ns e)
    omega
theorem inA_len (g : Gr) (a k : Nat) : (inA g a k).length ≤ k := coll_le (fun i => by split <;> simp) k
theorem outA_len (g : Gr) (k : Nat) : (outA g k).length ≤ k * 2 ^ g.es.length := by
  induction k with
  | zero => simp [outA, coll]
  | succ k ih =>
    show (outA g k ++ inA g k (2 ^ g.es.length)).length ≤ _
    have := inA_len g k (2 ^ g.es.length)
    rw [List.length_append, Nat.succ_mul]
    omega
/-- sorted, they are all parts in order -/
theorem all_sorted {g : Gr} {l : List Mo} (hp : l.Perm (outA g (2 ^ g.ns.length))) (hs : ∀ i j, i < j → j < l.length → ¬ cmpG (l.getD j default) (l.getD i default) < 0) : l = pAll g := by
  refine pAll_is ?_ fun p => hp.mem_iff.trans outA_mem
  have hn : l.Nodup := hp.nodup_iff.2 (outA_nodup (Nat.le_refl _))
  unfold SrtP
  rw [List.pairwise_iff_getElem]
  intro i j hi hj hij
  have h := hs i j hij hj
  rw [cmpG_sgn, List.getD_eq_getElem?_getD, List.getD_eq_getElem?_getD, List.getElem?_eq_getElem hi, List.getElem?_eq_getElem hj] at h
  simp only [Option.getD_some] at h
  have t := cmpP_turn l[i] l[j]
  have hne : cmpP l[i] l[j] ≠ 0 := fun e => by
    have e2 := cmpP_zero e
    exact absurd e2 (List.pairwise_iff_getElem.1 hn i j hi hj hij)
  omega

end Go.Proofs.YthnhacncnhknnaaGreatDoor

/-
  The program's comparison of parts; the bits of a number. Printed by mkg4.py.
-/
namespace Go.Proofs.YthnhacncnhknnaaGreatDoor
open Go.RowKit Go.Shelf

theorem cmpI_any (a b : Int) (w : World) : Calls Tryz.prog 62 #[.int .i64 a, .int .i64 b] w fun e w' => e = .returned (.int .i64 (cmpI a b)) ∧ w = w' := by
  have H1 : Hid (a < b → cmpI a b = -1) := Lib.hid fun h => if_pos h
  have H2 : Hid (b < a → cmpI a b = 1) := Lib.hid fun h => by unfold cmpI; rw [if_neg (by omega), if_pos h]
  have H3 : Hid (a = b → cmpI a b = 0) := Lib.hid fun h => by unfold cmpI; rw [if_neg (by omega), if_neg (by omega)]
  generalize cmpI a b = R at *
  have ta : (a != a) = false := by simp
  have tb : (b != b) = false := by simp
  by_cases h : a < b
  · have HE := Lib.hid (H1.out h)
    go_enter Tryz.func62, Tryz.ntmps62
    go_wp2
    go_ret
    exact ⟨ret_int HE.out.symm, rfl⟩
  · by_cases h2 : b < a
    · have HE := Lib.hid (H2.out h2)
      go_enter Tryz.func62, Tryz.ntmps62
      go_wp2
      go_ret
      exact ⟨ret_int HE.out.symm, rfl⟩
    · have HE := Lib.hid (H3.out (by omega))
      go_enter Tryz.func62, Tryz.ntmps62
      go_wp2
      go_ret
      exact ⟨ret_int HE.out.symm, rfl⟩

theorem cmpS_drop {a b : List Int} {k : Nat} (ha : k < a.length) (hb : k < b.length) : cmpS (a.drop k) (b.drop k) = if cmpI (a.getD k 0) (b.getD k 0) ≠ 0 then cmpI (a.getD k 0) (b.getD k 0) else cmpS (a.drop (k + 1)) (b.drop (k + 1)) := by
  rw [List.drop_eq_getElem_cons ha, List.drop_eq_getElem_cons hb, List.getD_eq_getElem?_getD, List.getD_eq_getElem?_getD, List.getElem?_eq_getElem ha, List.getElem?_eq_getElem hb]
  rfl
theorem cmpS_long {a b : List Int} {k : Nat} (ha : k < a.length) (hb : b.length ≤ k) : cmpS (a.drop k) (b.drop k) = 1 := by
  rw [List.drop_eq_getElem_cons ha, List.drop_of_length_le hb]
  rfl
theorem cmpS_short {a b : List Int} {k : Nat} (ha : a.length ≤ k) (hb : k < b.length) : cmpS (a.drop k) (b.drop k) = -1 := by
  rw [List.drop_eq_getElem_cons hb, List.drop_of_length_le ha]
  rfl
theorem cmpS_both {a b : List Int} {k : Nat} (ha : a.length ≤ k) (hb : b.length ≤ k) : cmpS (a.drop k) (b.drop k) = 0 := by
  rw [List.drop_of_length_le ha, List.drop_of_length_le hb]
  rfl
set_option maxHeartbeats 1000000 in
theorem cmpS_any (a b : List Int) (A A2 : Option Addr) (B B2 c c2 : Nat) (w : World) (la : a.length ≤ maxLen) (_ : b.length ≤ maxLen) (hA : Ints w B A a) (hB : Ints w B2 A2 b) :
    Calls Tryz.prog 63 #[.slice A a.length c, .slice A2 b.length c2] w fun e w' => e = .returned (.int .i64 (cmpS a b)) ∧ w = w' := by
  unfold maxLen at la
  have HA := Lib.hid hA
  have HB := Lib.hid hB
  have HC := Lib.hid (fun x y u => cmpI_any x y u)
  have H0 : Hid (cmpS a b = cmpS (a.drop 0) (b.drop 0)) := Lib.hid rfl
  have HD := Lib.hid (fun k (ha : k < a.length) (hb : k < b.length) => cmpS_drop ha hb)
  have HL := Lib.hid (fun k (ha : k < a.length) (hb : b.length ≤ k) => cmpS_long ha hb)
  have HS := Lib.hid (fun k (ha : a.length ≤ k) (hb : k < b.length) => cmpS_short ha hb)
  have HE := Lib.hid (fun k (ha : a.length ≤ k) (hb : b.length ≤ k) => cmpS_both ha hb)
  clear hA hB
  obtain ⟨F, hF⟩ : ∃ F : Nat → Int, F = fun k => cmpS (a.drop k) (b.drop k) := ⟨_, rfl⟩
  have HF : Hid (∀ k, cmpS (a.drop k) (b.drop k) = F k) := Lib.hid fun k => by rw [hF]
  clear hF
  generalize cmpS a b = R at *
  go_enter Tryz.func63, Tryz.ntmps63
  go_wp2_with fail
  go_loop [11] (fun x => ∃ k : Nat, k ≤ a.length ∧ k ≤ b.length ∧ x = .int .i64 (k : Int) ∧ R = F k) (fun x => a.length - (intOf x).toNat)
  case atStart => exact ⟨0, Nat.zero_le _, Nat.zero_le _, rfl, H0.out.trans (HF.out 0)⟩
  case round =>
    obtain ⟨k, hk, hkb, rfl, hr⟩ := hrel
    have HR := Lib.hid hr
    clear hr
    by_cases hlt : k < a.length
    · obtain ⟨b1, off, rfl, hb1, hc⟩ := Ints.cells HA.out hlt
      have ck := hc k hlt
      have i0 : (0 : Int) ≤ (k : Int) := by omega
      have i1 : (k : Int) < (a.length : Int) := by omega
      have i2 : ((k : Int)).toNat = k := by omega
      clear hc
      by_cases hltb : k < b.length
      · obtain ⟨b2, off2, rfl, hb2, hd⟩ := Ints.cells HB.out hltb
        have dk := hd k hltb
        have j1 : (k : Int) < (b.length : Int) := by omega
        have HX := Lib.hid (show R = if cmpI (a.getD k 0) (b.getD k 0) ≠ 0 then cmpI (a.getD k 0) (b.getD k 0) else F (k + 1) by rw [HR.out, ← HF.out k, HD.out k hlt hltb, HF.out (k + 1)])
        have HM : Hid (a.length - ((k : Int) + 1).toNat < a.length - ((k : Int)).toNat) := Lib.hid (by omega)
        have HLT := Lib.hid (And.intro hlt hltb)
        have HCC := Lib.hid (HC.out (a.getD k 0) (b.getD k 0) w)
        clear hd
        generalize cmpI (a.getD k 0) (b.getD k 0) = z at *
        generalize a.getD k 0 = x at *
        generalize b.getD k 0 = y at *
        by_cases hz : z = 0
        · have HR2 := Lib.hid (show R = F (k + 1) by rw [HX.out, if_neg (fun hn => hn hz)])
          have t1 : (z != 0) = false := by simp [hz]
          clear hz
          go_wp2_with fail
          refine HCC.out.mono ?_
          rintro e w1 ⟨rfl, rfl⟩
          go_wp2_with fail
          go_round
          case rel => exact ⟨k + 1, HLT.out.1, HLT.out.2, by go_num, HR2.out⟩
          case measure => exact HM.out
        · have HR2 := Lib.hid (show R = z by rw [HX.out, if_pos hz])
          have t1 : (z != 0) = true := by simpa using hz
          clear hz
          go_wp2_with fail
          refine HCC.out.mono ?_
          rintro e w1 ⟨rfl, rfl⟩
          go_wp2_with fail
          go_ret
          exact ⟨ret_int HR2.out.symm, rfl⟩
      · have HR2 := Lib.hid (show R = 1 by rw [HR.out, ← HF.out k]; exact HL.out k hlt (by omega))
        have e : k = b.length := by omega
        subst e
        go_wp2_with fail
        go_ret
        exact ⟨ret_int HR2.out.symm, rfl⟩
    · have e : k = a.length := by omega
      subst e
      by_cases hltb : a.length < b.length
      · have HR2 := Lib.hid (show R = -1 by rw [HR.out, ← HF.out a.length]; exact HS.out _ (Nat.le_refl _) hltb)
        go_wp2_with fail
        go_ret
        exact ⟨ret_int HR2.out.symm, rfl⟩
      · have HR2 := Lib.hid (show R = 0 by rw [HR.out, ← HF.out a.length]; exact HE.out _ (Nat.le_refl _) (by omega))
        have t1 : ¬ a.length < b.length := hltb
        go_wp2_with fail
        go_ret
        exact ⟨ret_int HR2.out.symm, rfl⟩

theorem fst0_drop {xs : List Int} {k : Nat} (h : k < xs.length) : fst0 (xs.drop k) = if xs.getD k 0 ≠ 0 then xs.getD k 0 else fst0 (xs.drop (k + 1)) := by
  rw [List.drop_eq_getElem_cons h, List.getD_eq_getElem?_getD, List.getElem?_eq_getElem h]
  rfl
theorem fst0_end {xs : List Int} {k : Nat} (h : xs.length ≤ k) : fst0 (xs.drop k) = 0 := by rw [List.drop_of_length_le h]; rfl
set_option maxHeartbeats 1000000 in
theorem or_any (xs : List Int) (A : Option Addr) (B c : Nat) (w : World) (hl : xs.length ≤ maxLen) (hA : Ints w B A xs) :
    Calls Tryz.prog 61 #[.slice A xs.length c] w fun e w' => e = .returned (.int .i64 (fst0 xs)) ∧ w = w' := by
  unfold maxLen at hl
  have HA := Lib.hid hA
  have H0 : Hid (fst0 xs = fst0 (xs.drop 0)) := Lib.hid rfl
  have HD := Lib.hid (fun k (h : k < xs.length) => fst0_drop h)
  have HE := Lib.hid (fun k (h : xs.length ≤ k) => fst0_end h)
  clear hA
  obtain ⟨F, hF⟩ : ∃ F : Nat → Int, F = fun k => fst0 (xs.drop k) := ⟨_, rfl⟩
  have HF : Hid (∀ k, fst0 (xs.drop k) = F k) := Lib.hid fun k => by rw [hF]
  clear hF
  generalize fst0 xs = R at *
  go_enter Tryz.func61, Tryz.ntmps61
  go_wp2_with fail
  go_loop [8] (fun x => ∃ k : Nat, k ≤ xs.length ∧ x = .int .i64 (k : Int) ∧ R = F k) (fun x => xs.length - (intOf x).toNat)
  case atStart => exact ⟨0, Nat.zero_le _, rfl, H0.out.trans (HF.out 0)⟩
  case round =>
    obtain ⟨k, hk, rfl, hr⟩ := hrel
    have HR := Lib.hid hr
    clear hr
    by_cases hlt : k < xs.length
    · obtain ⟨b1, off, rfl, hb1, hc⟩ := Ints.cells HA.out hlt
      have ck := hc k hlt
      have i0 : (0 : Int) ≤ (k : Int) := by omega
      have i1 : (k : Int) < (xs.length : Int) := by omega
      have i2 : ((k : Int)).toNat = k := by omega
      have HX := Lib.hid (show R = if xs.getD k 0 ≠ 0 then xs.getD k 0 else F (k + 1) by rw [HR.out, ← HF.out k, HD.out k hlt, HF.out (k + 1)])
      have HM : Hid (xs.length - ((k : Int) + 1).toNat < xs.length - ((k : Int)).toNat) := Lib.hid (by omega)
      have HLT := Lib.hid hlt
      clear hc
      generalize xs.getD k 0 = z at *
      by_cases hz : z = 0
      · have HR2 := Lib.hid (show R = F (k + 1) by rw [HX.out, if_neg (fun hn => hn hz)])
        have t1 : (z != 0) = false := by simp [hz]
        clear hz
        go_wp2_with fail
        go_round
        case rel => exact ⟨k + 1, HLT.out, by go_num, HR2.out⟩
        case measure => exact HM.out
      · have HR2 := Lib.hid (show R = z by rw [HX.out, if_pos hz])
        have t1 : (z != 0) = true := by simpa using hz
        clear hz
        go_wp2_with fail
        go_ret
        exact ⟨ret_int HR2.out.symm, rfl⟩
    · have HR2 := Lib.hid (show R = 0 by rw [HR.out, ← HF.out k]; exact HE.out _ (by omega))
      go_wp2_with fail
      go_ret
      exact ⟨ret_int HR2.out.symm, rfl⟩

/-- what a call does that makes blocks and draws, and no more -/
def Grew (w w' : World) : Prop := ∃ k os, w' = Sort.grow (w.drewN k) os
theorem Grew.below {w w' : World} (h : Grew w w') : Below w.heap.size w w' := by
  obtain ⟨k, os, rfl⟩ := h
  exact ⟨rfl, rfl, rfl, by simp, fun i hi => Sort.heap_grow_old _ _ (by simpa using hi)⟩
set_option maxRecDepth 100000 in
set_option maxHeartbeats 4000000 in
theorem compareG_any (p q : Mo) (Pn : Option Addr) (pn : Nat) (Pe : Option Addr) (pe : Nat) (Qn : Option Addr) (qn : Nat) (Qe : Option Addr) (qe : Nat) (w : World) (hp : PtAt w Pn Pe p) (hq : PtAt w Qn Qe q) :
    Calls Tryz.prog 44 #[gval Pn p.ns.length pn Pe p.es.length pe, gval Qn q.ns.length qn Qe q.es.length qe] w fun e w' => e = .returned (.int .i64 (cmpG p q)) ∧ Grew w w' := by
  have hS0 : SR w _ ((w.alloc (.cells #[.slice Pn p.ns.length pn, .slice Pe p.es.length pe] 27)).alloc (.cells #[.slice Qn q.ns.length qn, .slice Qe q.es.length qe] 27)) := SR.push (SR.push (SR.nil w) rfl _ _ _) (by simp) _ _ _
  have hgr : ((w.alloc (.cells #[.slice Pn p.ns.length pn, .slice Pe p.es.length pe] 27)).alloc (.cells #[.slice Qn q.ns.length qn, .slice Qe q.es.length qe] 27)).drew = Sort.grow (w.drewN 1) #[.cells #[.slice Pn p.ns.length pn, .slice Pe p.es.length pe] 27, .cells #[.slice Qn q.ns.length qn, .slice Qe q.es.length qe] 27] := by
    rw [Sort.alloc_eq_grow, Sort.alloc_eq_grow, Sort.grow_grow]; rfl
  have HC1 := Lib.hid (fun u => cmpI_any (p.ns.length : Int) (q.ns.length : Int) u)
  have HC3 := Lib.hid (fun u => cmpI_any (p.es.length : Int) (q.es.length : Int) u)
  have HC2 := Lib.hid (fun (u : World) (hu : Below w.heap.size w u) => cmpS_any p.ns q.ns Pn Qn u.heap.size u.heap.size pn qn u (by have := hp.ln; unfold maxLen; omega) (by have := hq.ln; unfold maxLen; omega) (Reads.up hp.ns hu) (Reads.up hq.ns hu))
  have HC4 := Lib.hid (fun (u : World) (hu : Below w.heap.size w u) => cmpS_any p.es q.es Pe Qe u.heap.size u.heap.size pe qe u (by have := hp.le; unfold maxLen; omega) (by have := hq.le; unfold maxLen; omega) (Reads.up hp.es hu) (Reads.up hq.es hu))
  have HX : Hid (cmpG p q = fst0 [cmpI p.ns.length q.ns.length, cmpS p.ns q.ns, cmpI p.es.length q.es.length, cmpS p.es q.es]) := Lib.hid rfl
  have HGR := Lib.hid hgr
  have HS0 := Lib.hid hS0
  clear hp hq hS0 hgr
  generalize cmpG p q = R at *
  generalize cmpI p.ns.length q.ns.length = z1 at *
  generalize cmpI p.es.length q.es.length = z3 at *
  generalize cmpS p.ns q.ns = z2 at *
  generalize cmpS p.es q.es = z4 at *
  have HOR := Lib.hid (fun (u : World) (g k : Nat) (h : Ints u u.heap.size (some ⟨g, 0, none⟩) [z1, z2, z3, z4]) => or_any [z1, z2, z3, z4] (some ⟨g, 0, none⟩) u.heap.size k u (by unfold maxLen; simp) h)
  go_enter Tryz.func44, Tryz.ntmps44
  go_wp2_with fail
  obtain ⟨c0, c1⟩ := HS0.out.cell (i := 0) rfl
  obtain ⟨c2, c3⟩ := HS0.out.cell (i := 1) rfl
  simp only [Nat.add_zero] at c0 c1
  have HBD := Lib.hid (HS0.out.1.drew)
  have HSS : Hid ((fun u : World => u.cell? ⟨w.heap.size, 0, none⟩ = some (.slice Pn p.ns.length pn) ∧ u.cell? ⟨w.heap.size, 1, none⟩ = some (.slice Pe p.es.length pe) ∧ u.cell? ⟨w.heap.size + 1, 0, none⟩ = some (.slice Qn q.ns.length qn) ∧ u.cell? ⟨w.heap.size + 1, 1, none⟩ = some (.slice Qe q.es.length qe)) (((w.alloc (.cells #[.slice Pn p.ns.length pn, .slice Pe p.es.length pe] 27)).alloc (.cells #[.slice Qn q.ns.length qn, .slice Qe q.es.length qe] 27)).drew)) := Lib.hid ⟨c0, c1, c2, c3⟩
  clear c0 c1 c2 c3 HS0
  refine wp_region_noPanic ?_
  refine wp_region_held_drew (S := (fun u : World => u.cell? ⟨w.heap.size, 0, none⟩ = some (.slice Pn p.ns.length pn) ∧ u.cell? ⟨w.heap.size, 1, none⟩ = some (.slice Pe p.es.length pe) ∧ u.cell? ⟨w.heap.size + 1, 0, none⟩ = some (.slice Qn q.ns.length qn) ∧ u.cell? ⟨w.heap.size + 1, 1, none⟩ = some (.slice Qe q.es.length qe))) (by kernel_rfl) HSS.out (fun hHeld => ?_)
  generalize ((w.alloc (.cells #[.slice Pn p.ns.length pn, .slice Pe p.es.length pe] 27)).alloc (.cells #[.slice Qn q.ns.length qn, .slice Qe q.es.length qe] 27)).drew = wd at *
  refine wpAnyH_take (i := 0) (v := ?_) (oper_at (r := _) rfl) (by kernel_rfl) (by kernel_rfl) (by kernel_rfl) (fun _ _ _ h => h) (Or.inl ⟨by rfl, ?_⟩) (by assumption) ?_
  rotate_left
  · intro w hSw; try dsimp only at hSw
    go_simp
    try with_reducible rfl
  try simp only [Act.put, List.setIfInBounds_toArray, List.set_cons_zero, List.set_cons_succ]
  refine wpAnyH_take (i := 1) (v := ?_) (oper_at (r := _) rfl) (by kernel_rfl) (by kernel_rfl) (by kernel_rfl) (fun _ _ _ h => h) (Or.inl ⟨by rfl, ?_⟩) (by assumption) ?_
  rotate_left
  · intro w hSw; try dsimp only at hSw
    go_simp
    try with_reducible rfl
  try simp only [Act.put, List.setIfInBounds_toArray, List.set_cons_zero, List.set_cons_succ]
  refine wpAnyH_take (i := 2) (v := ?_) (oper_at (r := _) rfl) (by kernel_rfl) (by kernel_rfl) (by kernel_rfl) (fun _ _ _ h => h) (Or.inl ⟨by rfl, ?_⟩) (by assumption) ?_
  rotate_left
  · intro w hSw; try dsimp only at hSw
    go_simp
    try with_reducible rfl
  try simp only [Act.put, List.setIfInBounds_toArray, List.set_cons_zero, List.set_cons_succ]
  refine wpAnyH_take (i := 3) (v := ?_) (oper_at (r := _) rfl) (by kernel_rfl) (by kernel_rfl) (by kernel_rfl) (fun _ _ _ h => h) (Or.inl ⟨by rfl, ?_⟩) (by assumption) ?_
  rotate_left
  · intro w hSw; try dsimp only at hSw
    go_simp
    try with_reducible rfl
  try simp only [Act.put, List.setIfInBounds_toArray, List.set_cons_zero, List.set_cons_succ]
  refine wpAnyH_take (i := 4) (v := ?_) (oper_at (r := _) rfl) (by kernel_rfl) (by kernel_rfl) (by kernel_rfl) (fun _ _ _ h => h) (Or.inl ⟨by rfl, ?_⟩) (by assumption) ?_
  rotate_left
  · intro w hSw; try dsimp only at hSw
    go_simp
    try with_reducible rfl
  try simp only [Act.put, List.setIfInBounds_toArray, List.set_cons_zero, List.set_cons_succ]
  refine wpAnyH_take (i := 5) (v := ?_) (oper_at (r := _) rfl) (by kernel_rfl) (by kernel_rfl) (by kernel_rfl) (fun _ _ _ h => h) (Or.inl ⟨by rfl, ?_⟩) (by assumption) ?_
  rotate_left
  · intro w hSw; try dsimp only at hSw
    go_simp
    try with_reducible rfl
  try simp only [Act.put, List.setIfInBounds_toArray, List.set_cons_zero, List.set_cons_succ]
  refine wpAnyH_take (i := 7) (v := ?_) (oper_at (r := _) rfl) (by kernel_rfl) (by kernel_rfl) (by kernel_rfl) (fun _ _ _ h => h) (Or.inl ⟨by rfl, ?_⟩) (by assumption) ?_
  rotate_left
  · intro w hSw; try dsimp only at hSw
    go_simp
    try with_reducible rfl
  try simp only [Act.put, List.setIfInBounds_toArray, List.set_cons_zero, List.set_cons_succ]
  refine wpAnyH_take (i := 8) (v := ?_) (oper_at (r := _) rfl) (by kernel_rfl) (by kernel_rfl) (by kernel_rfl) (fun _ _ _ h => h) (Or.inl ⟨by rfl, ?_⟩) (by assumption) ?_
  rotate_left
  · intro w hSw; try dsimp only at hSw
    go_simp
    try with_reducible rfl
  try simp only [Act.put, List.setIfInBounds_toArray, List.set_cons_zero, List.set_cons_succ]
  refine wpAnyH_take (i := 9) (v := ?_) (oper_at (r := _) rfl) (by kernel_rfl) (by kernel_rfl) (by kernel_rfl) (fun _ _ _ h => h) (Or.inl ⟨by rfl, ?_⟩) (by assumption) ?_
  rotate_left
  · intro w hSw; try dsimp only at hSw
    go_simp
    try with_reducible rfl
  try simp only [Act.put, List.setIfInBounds_toArray, List.set_cons_zero, List.set_cons_succ]
  refine wpAnyH_take (i := 10) (v := ?_) (oper_at (r := _) rfl) (by kernel_rfl) (by kernel_rfl) (by kernel_rfl) (fun _ _ _ h => h) (Or.inl ⟨by rfl, ?_⟩) (by assumption) ?_
  rotate_left
  · intro w hSw; try dsimp only at hSw
    go_simp
    try with_reducible rfl
  try simp only [Act.put, List.setIfInBounds_toArray, List.set_cons_zero, List.set_cons_succ]
  refine wpAnyH_take (i := 12) (v := ?_) (oper_at (r := _) rfl) (by kernel_rfl) (by kernel_rfl) (by kernel_rfl) (fun _ _ _ h => h) (Or.inl ⟨by rfl, ?_⟩) (by assumption) ?_
  rotate_left
  · intro w hSw; try dsimp only at hSw
    go_simp
    try with_reducible rfl
  try simp only [Act.put, List.setIfInBounds_toArray, List.set_cons_zero, List.set_cons_succ]
  refine wpAnyH_take (i := 13) (v := ?_) (oper_at (r := _) rfl) (by kernel_rfl) (by kernel_rfl) (by kernel_rfl) (fun _ _ _ h => h) (Or.inl ⟨by rfl, ?_⟩) (by assumption) ?_
  rotate_left
  · intro w hSw; try dsimp only at hSw
    go_simp
    try with_reducible rfl
  try simp only [Act.put, List.setIfInBounds_toArray, List.set_cons_zero, List.set_cons_succ]
  refine wpAnyH_take (i := 14) (v := ?_) (oper_at (r := _) rfl) (by kernel_rfl) (by kernel_rfl) (by kernel_rfl) (fun _ _ _ h => h) (Or.inl ⟨by rfl, ?_⟩) (by assumption) ?_
  rotate_left
  · intro w hSw; try dsimp only at hSw
    go_simp
    try with_reducible rfl
  try simp only [Act.put, List.setIfInBounds_toArray, List.set_cons_zero, List.set_cons_succ]
  refine wpAnyH_take (i := 15) (v := ?_) (oper_at (r := _) rfl) (by kernel_rfl) (by kernel_rfl) (by kernel_rfl) (fun _ _ _ h => h) (Or.inl ⟨by rfl, ?_⟩) (by assumption) ?_
  rotate_left
  · intro w hSw; try dsimp only at hSw
    go_simp
    try with_reducible rfl
  try simp only [Act.put, List.setIfInBounds_toArray, List.set_cons_zero, List.set_cons_succ]
  refine wpAnyH_take (i := 16) (v := ?_) (oper_at (r := _) rfl) (by kernel_rfl) (by kernel_rfl) (by kernel_rfl) (fun _ _ _ h => h) (Or.inl ⟨by rfl, ?_⟩) (by assumption) ?_
  rotate_left
  · intro w hSw; try dsimp only at hSw
    go_simp
    try with_reducible rfl
  try simp only [Act.put, List.setIfInBounds_toArray, List.set_cons_zero, List.set_cons_succ]
  refine wpAnyH_take (i := 17) (v := ?_) (oper_at (r := _) rfl) (by kernel_rfl) (by kernel_rfl) (by kernel_rfl) (fun _ _ _ h => h) (Or.inl ⟨by rfl, ?_⟩) (by assumption) ?_
  rotate_left
  · intro w hSw; try dsimp only at hSw
    go_simp
    try with_reducible rfl
  try simp only [Act.put, List.setIfInBounds_toArray, List.set_cons_zero, List.set_cons_succ]
  refine wpAnyH_take (i := 19) (v := ?_) (oper_at (r := _) rfl) (by kernel_rfl) (by kernel_rfl) (by kernel_rfl) (fun _ _ _ h => h) (Or.inl ⟨by rfl, ?_⟩) (by assumption) ?_
  rotate_left
  · intro w hSw; try dsimp only at hSw
    go_simp
    try with_reducible rfl
  try simp only [Act.put, List.setIfInBounds_toArray, List.set_cons_zero, List.set_cons_succ]
  refine wpAnyH_take (i := 20) (v := ?_) (oper_at (r := _) rfl) (by kernel_rfl) (by kernel_rfl) (by kernel_rfl) (fun _ _ _ h => h) (Or.inl ⟨by rfl, ?_⟩) (by assumption) ?_
  rotate_left
  · intro w hSw; try dsimp only at hSw
    go_simp
    try with_reducible rfl
  try simp only [Act.put, List.setIfInBounds_toArray, List.set_cons_zero, List.set_cons_succ]
  refine wpAnyH_take (i := 21) (v := ?_) (oper_at (r := _) rfl) (by kernel_rfl) (by kernel_rfl) (by kernel_rfl) (fun _ _ _ h => h) (Or.inl ⟨by rfl, ?_⟩) (by assumption) ?_
  rotate_left
  · intro w hSw; try dsimp only at hSw
    go_simp
    try with_reducible rfl
  try simp only [Act.put, List.setIfInBounds_toArray, List.set_cons_zero, List.set_cons_succ]
  refine wpAnyH_take (i := 22) (v := ?_) (oper_at (r := _) rfl) (by kernel_rfl) (by kernel_rfl) (by kernel_rfl) (fun _ _ _ h => h) (Or.inl ⟨by rfl, ?_⟩) (by assumption) ?_
  rotate_left
  · intro w hSw; try dsimp only at hSw
    go_simp
    try with_reducible rfl
  try simp only [Act.put, List.setIfInBounds_toArray, List.set_cons_zero, List.set_cons_succ]
  refine wpAnyH_ready (rs := [6]) (by kernel_rfl) (by simp) ?_
  refine AllReadyH.cons (oper_at (r := _) rfl) (fun K hK => ?_) AllReadyH.nil
  go_simp
  refine (HC1.out _).mono ?_
  rintro e u1 ⟨rfl, rfl⟩
  go_wp2_with fail
  refine hK.out _ _ HSS.out (fun _ => ?_)
  clear hK K
  try simp only [Act.put, List.setIfInBounds_toArray, List.set_cons_zero, List.set_cons_succ]
  refine wpAnyH_ready (rs := [11]) (by kernel_rfl) (by simp) ?_
  refine AllReadyH.cons (oper_at (r := _) rfl) (fun K hK => ?_) AllReadyH.nil
  go_simp
  refine (HC2.out _ HBD.out).mono ?_
  rintro e u2 ⟨rfl, rfl⟩
  go_wp2_with fail
  refine hK.out _ _ HSS.out (fun _ => ?_)
  clear hK K
  try simp only [Act.put, List.setIfInBounds_toArray, List.set_cons_zero, List.set_cons_succ]
  refine wpAnyH_ready (rs := [18]) (by kernel_rfl) (by simp) ?_
  refine AllReadyH.cons (oper_at (r := _) rfl) (fun K hK => ?_) AllReadyH.nil
  go_simp
  refine (HC3.out _).mono ?_
  rintro e u3 ⟨rfl, rfl⟩
  go_wp2_with fail
  refine hK.out _ _ HSS.out (fun _ => ?_)
  clear hK K
  try simp only [Act.put, List.setIfInBounds_toArray, List.set_cons_zero, List.set_cons_succ]
  refine wpAnyH_ready (rs := [23]) (by kernel_rfl) (by simp) ?_
  refine AllReadyH.cons (oper_at (r := _) rfl) (fun K hK => ?_) AllReadyH.nil
  go_simp
  refine (HC4.out _ HBD.out).mono ?_
  rintro e u4 ⟨rfl, rfl⟩
  go_wp2_with fail
  refine hK.out _ _ HSS.out (fun _ => ?_)
  clear hK K
  try simp only [Act.put, List.setIfInBounds_toArray, List.set_cons_zero, List.set_cons_succ]
  refine wpAnyH_ready (rs := [24]) (by kernel_rfl) (by simp) ?_
  refine AllReadyH.cons (oper_at (r := _) rfl) (fun K hK => ?_) AllReadyH.nil
  have hb : Below wd.heap.size wd (wd.alloc (.cells #[.int .i64 z1, .int .i64 z2, .int .i64 z3, .int .i64 z4] 3)) := (Below.refl _ _).alloc (Nat.le_refl _) _
  have hr : Ints (wd.alloc (.cells #[.int .i64 z1, .int .i64 z2, .int .i64 z3, .int .i64 z4] 3)) (wd.alloc (.cells #[.int .i64 z1, .int .i64 z2, .int .i64 z3, .int .i64 z4] 3)).heap.size (some ⟨wd.heap.size, 0, none⟩) [z1, z2, z3, z4] := by
    have ho : OwnI (wd.alloc (.cells #[.int .i64 z1, .int .i64 z2, .int .i64 z3, .int .i64 z4] 3)) 0 (.slice (some ⟨wd.heap.size, 0, none⟩) 4 4) [z1, z2, z3, z4] := ⟨rfl, .inr ⟨wd.heap.size, 4, _, rfl, Nat.zero_le _, heap_alloc_new _ _, Nat.le_refl _, by decide, rfl, rfl⟩⟩
    obtain ⟨X, x, e, h⟩ := OwnE.reads ho
    injection e with e e1 e2
    rw [e]; exact h
  have HSB : Hid ((fun u : World => u.cell? ⟨w.heap.size, 0, none⟩ = some (.slice Pn p.ns.length pn) ∧ u.cell? ⟨w.heap.size, 1, none⟩ = some (.slice Pe p.es.length pe) ∧ u.cell? ⟨w.heap.size + 1, 0, none⟩ = some (.slice Qn q.ns.length qn) ∧ u.cell? ⟨w.heap.size + 1, 1, none⟩ = some (.slice Qe q.es.length qe)) (wd.alloc (.cells #[.int .i64 z1, .int .i64 z2, .int .i64 z3, .int .i64 z4] 3))) := Lib.hid ⟨cell_up hb HSS.out.1, cell_up hb HSS.out.2.1, cell_up hb HSS.out.2.2.1, cell_up hb HSS.out.2.2.2⟩
  have HO := Lib.hid (HOR.out _ wd.heap.size 4 hr)
  have HGW : Hid (Grew w (wd.alloc (.cells #[.int .i64 z1, .int .i64 z2, .int .i64 z3, .int .i64 z4] 3))) := Lib.hid ⟨1, _, by rw [HGR.out, Sort.alloc_eq_grow, Sort.grow_grow]⟩
  clear hb hr HOR HGR
  go_simp
  refine hK.out _ _ HSB.out (fun _ => ?_)
  clear hK K
  try simp only [Act.put, List.setIfInBounds_toArray, List.set_cons_zero, List.set_cons_succ]
  generalize wd.alloc (.cells #[.int .i64 z1, .int .i64 z2, .int .i64 z3, .int .i64 z4] 3) = wz at *
  refine wpAnyH_ready (rs := [25]) (by kernel_rfl) (by simp) ?_
  refine AllReadyH.cons (oper_at (r := _) rfl) (fun K hK => ?_) AllReadyH.nil
  go_simp
  refine HO.out.mono ?_
  rintro e u5 ⟨rfl, rfl⟩
  go_wp2_with fail
  refine hK.out _ _ HSB.out (fun _ => ?_)
  clear hK K
  try simp only [Act.put, List.setIfInBounds_toArray, List.set_cons_zero, List.set_cons_succ]
  refine wpAnyH_take (i := 26) (v := ?_) (oper_at (r := _) rfl) (by kernel_rfl) (by kernel_rfl) (by kernel_rfl) (fun _ _ _ h => h) (Or.inl ⟨by rfl, ?_⟩) (by assumption) ?_
  rotate_left
  · intro w hSw; try dsimp only at hSw
    go_simp
    try with_reducible rfl
  try simp only [Act.put, List.setIfInBounds_toArray, List.set_cons_zero, List.set_cons_succ]
  refine wpAnyH_done (by kernel_rfl) ?_ _
  refine NoPanic.normal ?_
  go_wp2_with fail
  go_ret
  exact ⟨ret_int HX.out.symm, HGW.out⟩

/-! the bits of a number -/
set_option maxHeartbeats 1000000 in
theorem tz7_any (x : Nat) (hx : x < 18446744073709551616) (h0 : x ≠ 0) (w : World) (hT : TabV w) : Calls Tryz.prog 71 #[.int .u64 x] w fun e w' => e = .returned (.int .i64 (Lib.ctz 64 x : Int)) ∧ w = w' := by
  have hx0 : ((x : Int) == 0) = false := by simp; omega
  obtain ⟨hlow, hk⟩ := Lib.lowest_bit 64 x h0 hx
  obtain ⟨hi, htab⟩ := Lib.deBruijn64_at _ hk
  have hcell := hT.1 _ hi
  rw [htab] at hcell
  have key := tz64_key x _ hx h0 hlow
  clear hlow htab hT
  generalize Lib.ctz 64 x = k at *
  generalize 2 ^ k * 285870213051353865 % 18446744073709551616 / 288230376151711744 = idx at *
  have i0 : (0 : Int) ≤ (idx : Int) := by omega
  have i1 : (idx : Int) < 64 := by omega
  have i2 : ((idx : Int)).toNat = idx := by omega
  go_enter Tryz.func71, Tryz.ntmps71
  go_wp2_with (simp only [key])
  go_ret
  exact ⟨rfl, rfl⟩
theorem tzU_any (x : Nat) (hx : x < 18446744073709551616) (h0 : x ≠ 0) (w : World) (hT : TabV w) : Calls Tryz.prog 58 #[.int .u64 x] w fun e w' => e = .returned (.int .i64 (Lib.ctz 64 x : Int)) ∧ w = w' := by
  have H := Lib.hid (tz7_any x hx h0 w hT)
  clear hT
  generalize Lib.ctz 64 x = k at *
  go_enter Tryz.func58, Tryz.ntmps58
  go_wp2_with fail
  refine H.out.mono ?_
  rintro e w' ⟨rfl, rfl⟩
  go_wp2_with fail
  go_ret
  exact ⟨rfl, rfl⟩

/-- the bits of a number below 64, the lowest one first -/
def bts (s : Nat) : List Int := sel (fun i => s.testBit i) 6
set_option maxRecDepth 100000 in
theorem bts_step : ∀ s : Fin 64, s.val ≠ 0 → bts s.val = (Lib.ctz 64 s.val : Int) :: bts (s.val &&& (s.val - 1)) ∧ (s.val &&& (s.val - 1)) < s.val ∧ bits .and .u64 (s.val : Int) ((s.val : Int) - 1) = ((s.val &&& (s.val - 1) : Nat) : Int) := by decide
theorem bts_len (s : Nat) : (bts s).length ≤ 6 := sel_le _ _
theorem bts_sel {s n : Nat} (hs : s < 2 ^ n) (hn : n ≤ 6) : bts s = sel (fun i => s.testBit i) n := by
  refine ascI_ext (sel_asc _ _) (sel_asc _ _) fun x => ?_
  unfold bts
  rw [sel_mem, sel_mem]
  constructor
  · rintro ⟨i, _, h, rfl⟩
    refine ⟨i, Nat.lt_of_not_le fun hi => ?_, h, rfl⟩
    have : 2 ^ n ≤ 2 ^ i := Nat.pow_le_pow_right (by omega) hi
    rw [Nat.testBit_lt_two_pow (by omega)] at h
    cases h
  · rintro ⟨i, hi, h, rfl⟩
    exact ⟨i, by omega, h, rfl⟩
set_option maxHeartbeats 1000000 in
theorem membersG_any (s : Nat) (w : World) (hs : s < 64) (hT : TabV w) :
    Calls Tryz.prog 42 #[.int .u64 (s : Int)] w fun e w' => ∃ v, e = .returned v ∧ OwnI w' w.heap.size v (bts s) ∧ Below w.heap.size w w' := by
  have HT := Lib.hid hT
  have HTZ := Lib.hid (fun (x : Nat) (hx : x < 64) (h0 : x ≠ 0) (u : World) (hu : Below w.heap.size w u) => tzU_any x (by omega) h0 u (TabV.up hT hu))
  have HST := Lib.hid (fun (x : Nat) (hx : x < 64) (h0 : x ≠ 0) => bts_step ⟨x, hx⟩ h0)
  have HL := Lib.hid (fun x => bts_len x)
  have HZ : Hid (bts 0 = []) := Lib.hid (by decide)
  have HT0 : Hid (bts s = [] ++ bts s) := Lib.hid rfl
  obtain ⟨T, hTT⟩ : ∃ T, T = bts s := ⟨_, rfl⟩
  rw [← hTT]
  have HTT := Lib.hid (show T = [] ++ bts s from hTT)
  have HTL : Hid (T.length ≤ 6) := Lib.hid (by rw [hTT]; exact bts_len s)
  clear hT hTT HT0
  go_enter Tryz.func42, Tryz.ntmps42
  go_wp2_with fail
  go_loopw [0, 3] (fun x v wr => ∃ (r : Nat) (cs : List Int), r < 64 ∧ x = .int .u64 (r : Int) ∧ OwnI wr w.heap.size v cs ∧ T = cs ++ bts r ∧ Below w.heap.size w wr) (fun x _ _ => (intOf x).toNat)
  case atStart => exact ⟨s, [], hs, rfl, OwnE.nil _ _ _, HTT.out, Below.refl _ _⟩
  case round =>
    obtain ⟨r, cs, hr, rfl, hown, ht, hbel⟩ := hrel
    have HG := Lib.hid hbel
    have HTR := Lib.hid ht
    have hsz := hbel.size
    obtain ⟨ao, cap, rfl⟩ := OwnE.slice hown
    have HW := Lib.hid hown
    by_cases hz : r = 0
    · have HE := Lib.hid (show T = cs by rw [HTR.out, hz, HZ.out, List.append_nil])
      have t1 : ((r : Int) != 0) = false := by simp [hz]
      clear hown hbel hz ht
      go_wp2_with fail
      go_ret
      exact ⟨_, rfl, by rw [HE.out]; exact HW.out, HG.out⟩
    · obtain ⟨e1, e2, e3⟩ := HST.out r hr hz
      have t1 : ((r : Int) != 0) = true := by simp; omega
      have hcl : cs.length ≤ 6 := by
        have h1 := HTL.out
        rw [HTR.out, List.length_append] at h1
        omega
      have HE := Lib.hid (show T = (cs ++ [(Lib.ctz 64 r : Int)]) ++ bts (r &&& (r - 1)) by rw [HTR.out]; rw [e1, List.append_assoc]; rfl)
      have HQ := Lib.hid (HTZ.out r hr hz wr HG.out)
      have r0 : (1 : Int) ≤ (r : Int) := by omega
      have r1 : (r : Int) < 64 := by omega
      have e4 := e3
      have HR2 : Hid ((r &&& (r - 1)) < 64) := Lib.hid (by omega)
      have HM := Lib.hid e2
      clear e1 e2 e3 hown hbel ht hz
      generalize Lib.ctz 64 r = k at *
      generalize r &&& (r - 1) = r2 at *
      go_wp2_with fail
      refine HQ.out.mono ?_
      rintro e w9 ⟨rfl, rfl⟩
      go_wp2_with (at_builtin; refine wpList_append_int (w := wr.alloc _) rfl _ _ rfl w.heap.size _ cs rfl ?y1 wr.heap.size 1 (k : Int) rfl ?y2 ?y3 ?y4 ?_)
      case y1 => exact HW.out.alloc _
      case y2 => exact cell_new _ _ _
      case y3 => omega
      case y4 => simp; omega
      intro v2 w2 hown2 _ hb2
      have HW2 := Lib.hid hown2
      have HB2 := Lib.hid ((HG.out.alloc hsz _).trans hb2)
      clear hown2 hb2
      go_wp2_with fail
      go_roundw
      case rel => exact ⟨r2, _, HR2.out, rfl, HW2.out, HE.out, HB2.out⟩
      case measure => simp [intOf]; exact HM.out

end Go.Proofs.YthnhacncnhknnaaGreatDoor

/-
  Contracts of partition's Generate and Quotient (stage 2's texts, for the functions that graph calls).
-/
namespace Go.Proofs.YthnhacncnhknnaaGreatDoor.Pt
open Go.RowKit


theorem ret_bool {a b : Bool} (h : a = b) : Ending.returned (.bool a) = .returned (.bool b) := by rw [h]
theorem ret_int {k : IntKind} {a b : Int} (h : a = b) : Ending.returned (.int k a) = .returned (.int k b) := by rw [h]

/-- the slice at A reads as xs, in a block below B -/
def Ints (w : World) (B : Nat) (A : Option Addr) (xs : List Int) : Prop :=
  xs = [] ∨ ∃ b off, A = some ⟨b, off, none⟩ ∧ b < B ∧ ∀ i x, xs[i]? = some x → w.cell? ⟨b, off + i, none⟩ = some (.int .i64 x)

theorem getD_get {xs : List Int} {i : Nat} (h : i < xs.length) : xs[i]? = some (xs.getD i 0) := by simp [List.getD, h]

theorem Ints.at {w : World} {B : Nat} {A : Option Addr} {xs : List Int} (h : Ints w B A xs) {k : Nat} (hk : k < xs.length) :
    ∃ b off, A = some ⟨b, off, none⟩ ∧ b < B ∧ ∀ i, i < xs.length → w.cell? ⟨b, off + i, none⟩ = some (.int .i64 (xs.getD i 0)) := by
  rcases h with h | ⟨b, off, h1, h2, h3⟩
  · subst h; simp at hk
  · exact ⟨b, off, h1, h2, fun i hi => h3 i _ (getD_get hi)⟩

theorem Ints.below {w w' : World} {B : Nat} {A : Option Addr} {xs : List Int} (h : Ints w B A xs) (hb : Below B w w') : Ints w' B A xs := by
  rcases h with h | ⟨b, off, h1, h2, h3⟩
  · exact .inl h
  · exact .inr ⟨b, off, h1, h2, fun i x hx => (hb.cell (p := ⟨b, off + i, none⟩) h2).trans (h3 i x hx)⟩
theorem Ints.mono {w : World} {B B' : Nat} {A : Option Addr} {xs : List Int} (h : Ints w B A xs) (hb : B ≤ B') : Ints w B' A xs := by
  rcases h with h | ⟨b, off, h1, h2, h3⟩
  · exact .inl h
  · exact .inr ⟨b, off, h1, by omega, h3⟩
theorem Ints.up {w w' : World} {A : Option Addr} {xs : List Int} (h : Ints w w.heap.size A xs) (hb : Below w.heap.size w w') : Ints w' w'.heap.size A xs :=
  (h.below hb).mono hb.size

def cellsN (ys : List Nat) : List Value := ys.map fun n : Nat => Value.int .i64 (n : Int)
theorem cellsN_snoc (ys : List Nat) (n : Nat) : cellsN (ys ++ [n]) = cellsN ys ++ [.int .i64 (n : Int)] := by simp [cellsN]
theorem cellsN_set (ys : List Nat) (j n : Nat) : (cellsN ys).set j (.int .i64 (n : Int)) = cellsN (ys.set j n) := by simp [cellsN, List.map_set]
theorem cellsN_get {ys : List Nat} {i : Nat} (h : i < ys.length) : (cellsN ys)[i]? = some (.int .i64 (at_ ys i : Nat)) := by simp [cellsN, at_, h]
theorem addr_plain (b off j : Nat) : (⟨b, off, none⟩ : Addr).add j = ⟨b, off + j, none⟩ := Addr.add_lit _ _ _

theorem slice_of {w : World} {base : Nat} {e : TypeId} {size : Nat} {v : Value} {n : Nat} {xs : List Value} (h : w.ownsRow base e size v n xs) : ∃ ao cap, v = .slice ao n cap := by
  rcases h.2 with ⟨hv, h0⟩ | ⟨g, cap, cur, hv, _⟩
  · exact ⟨none, 0, by rw [hv, h0]⟩
  · exact ⟨_, _, hv⟩

/-- a slice that a call made -/
abbrev Own (w : World) (base : Nat) (v : Value) (ys : List Nat) : Prop := w.ownsRow base 3 1 v ys.length (cellsN ys)

theorem Own.below {w w' : World} {base B : Nat} {v : Value} {ys : List Nat} (h : Own w base v ys) (hb : Below B w w') (hB : w.heap.size ≤ B) : Own w' base v ys := by
  refine ⟨h.1, ?_⟩
  rcases h.2 with hn | ⟨g, cap, cur, hv, hbg, hg, rest⟩
  · exact .inl hn
  · exact .inr ⟨g, cap, cur, hv, hbg, by rw [hb.block g (Nat.lt_of_lt_of_le (h.lt g (by rw [hv]; rfl)).2 hB)]; exact hg, rest⟩

theorem below_draws {B : Nat} {a w : World} (h : Below B a w) (n : Nat) : Below B a (w.drewN n) := ⟨h.os, h.tape, h.output, h.size, h.block⟩

theorem infoInt : (Tryz.prog.info? 3).map (fun i => (i.zero, i.size, i.bytes)) = some (some (.int .i64 0), 1, 8) := by kernel_rfl



theorem grown_refl (a : World) (r : Option Nat) : a.grownBy a r := ⟨rfl, rfl, rfl, Nat.le_refl _, fun _ _ _ => rfl⟩
theorem Own.cell {w : World} {base g c : Nat} {ys : List Nat} (h : Own w base (.slice (some ⟨g, 0, none⟩) ys.length c) ys) {j : Nat} (hj : j < ys.length) : w.cell? ⟨g, j, none⟩ = some (.int .i64 (at_ ys j : Nat)) := by
  rw [World.ownsRow.cellAt h j (by omega), cellsN_get hj]
theorem Own.set {w : World} {base g c n : Nat} {ys : List Nat} (hn : n = ys.length) (h : Own w base (.slice (some ⟨g, 0, none⟩) n c) ys) (j m : Nat) :
    Own (w.setCell ⟨g, j, none⟩ (.int .i64 (m : Int))) base (.slice (some ⟨g, 0, none⟩) n c) (ys.set j m) ∧ w.grownBy (w.setCell ⟨g, j, none⟩ (.int .i64 (m : Int))) (some g) := by
  subst hn
  have := World.ownsRow.stored h j (.int .i64 (m : Int))
  rw [cellsN_set] at this
  refine ⟨?_, this.2⟩
  have e : (ys.set j m).length = ys.length := by simp
  unfold Own
  rw [e]
  exact this.1
theorem Own.grown {w w' : World} {base g : Nat} {v : Value} {ys : List Nat} (h : Own w base v ys) (hg : w.grownBy w' (some g)) (hne : v.ownBlock ≠ some g) : Own w' base v ys := World.ownsRow.kept h hg (.inr hne)

theorem Own.lt' {w : World} {base : Nat} {v : Value} {ys : List Nat} (h : Own w base v ys) : ∀ k, v.ownBlock = some k → base ≤ k := fun k hk => (h.lt k hk).1

theorem wpList_append_int {w : World} {ops : Array Oper} {rest : List Oper} {o : Oper} {a : Act} {Q : Exit → Act → World → Prop} (hgd : o.guard = none) (s x : Operand)
    (ho : o.op = .call { callee := .builtin .append, args := #[s, x], argTypes := #[22, 22] })
    (base : Nat) (v : Value) (ys : List Nat) (hs : a.eval s = v) (hown : Own w base v ys) (ad : Addr) (c m : Nat) (hx : a.eval x = .slice (some ad) 1 c)
    (hc : w.cell? ad = some (.int .i64 (m : Int))) (hl : ys.length ≤ 1000000) (hbase : base ≤ w.heap.size)
    (hK : ∀ v' w', Own w' base v' (ys ++ [m]) → w.grownBy w' v.ownBlock → Below base w w' → wpList Tryz.prog ops Q rest (a.put o.dst v') w') : wpList Tryz.prog ops Q (o :: rest) a w := by
  obtain ⟨i0, hi, hz0, hz1, hz2⟩ := info_parts infoInt
  refine wpList_append_own w hgd s x 22 ho base 3 i0 (.int .i64 0) 1 8 Tryz.underlying22 hi hz0 hz1 hz2 rfl (by decide) v ys.length (cellsN ys) hs hown ad 1 c [.int .i64 (m : Int)] hx rfl ?_ ?_ (by unfold maxLen; omega) (by omega) hbase ?_
  · intro j u hj
    cases j with
    | zero => simp at hj; subst hj; obtain ⟨b, off, sp⟩ := ad; have : (⟨b, off, sp⟩ : Addr).add 0 = ⟨b, off, sp⟩ := by simp [Addr.add]
              rw [this]; exact hc
    | succ j => simp at hj
  · intro u hu; simp at hu; subst hu; rfl
  · intro v' w' h1 h2 _
    refine hK v' w' ?_ h2 ((Below.refl base w).grown h2 hbase hown.lt')
    unfold Own
    rw [cellsN_snoc, List.length_append]
    exact h1

theorem Own.cast {w : World} {base : Nat} {v : Value} {ys zs : List Nat} (e : ys = zs) (h : Own w base v ys) : Own w base v zs := e ▸ h


theorem Own.mono {w : World} {base base' : Nat} {v : Value} {ys : List Nat} (h : Own w base v ys) (hb : base' ≤ base) : Own w base' v ys :=
  ⟨h.1, h.2.imp id fun ⟨g, cap, cur, hv, hg, r⟩ => ⟨g, cap, cur, hv, Nat.le_trans hb hg, r⟩⟩

theorem cell_new (w : World) (u : Value) (t : TypeId) : (w.alloc (.cells #[u] t)).cell? ⟨w.heap.size, 0, none⟩ = some u := by simp



end Go.Proofs.YthnhacncnhknnaaGreatDoor.Pt

/-
  Graphs, the reference: Components.
-/
namespace Go.Proofs.YthnhacncnhknnaaGreatDoor
open Go.RowKit
open Pt (at_)

abbrev RSl := Option Addr × Nat × Nat
abbrev rsv (r : RSl) : Value := .slice r.1 r.2.1 r.2.2
def ERp : El (RSl × RSl) := ⟨fun x => [rsv x.1, rsv x.2], 2, fun _ => rfl, fun x u hu => by simp at hu; rcases hu with rfl | rfl <;> rfl⟩
/-- the rows behind raw parts -/
def RowsP (w : World) (base : Nat) (rs : List (RSl × RSl)) (ps : List Mo) : Prop := rs.length = ps.length ∧ ∀ (i : Nat) (r : RSl × RSl) (x : Mo), rs[i]? = some r → ps[i]? = some x → OwnI w base (rsv r.1) x.ns ∧ OwnI w base (rsv r.2) x.es
theorem RowsP.below {w w' : World} {base B : Nat} {rs : List (RSl × RSl)} {ps : List Mo} (h : RowsP w base rs ps) (hb : Below B w w') (hB : w.heap.size ≤ B) : RowsP w' base rs ps :=
  ⟨h.1, fun i r x h1 h2 => ⟨OwnE.below (h.2 i r x h1 h2).1 hb hB, OwnE.below (h.2 i r x h1 h2).2 hb hB⟩⟩
theorem RowsP.grow {w w' : World} {base b2 : Nat} {t : TypeId} {rs : List (RSl × RSl)} {ps : List Mo} (h : RowsP w base rs ps) (ht : 3 ≠ t) (hg : Grow t b2 w w') : RowsP w' base rs ps :=
  ⟨h.1, fun i r x h1 h2 => ⟨hg.row ht (h.2 i r x h1 h2).1, hg.row ht (h.2 i r x h1 h2).2⟩⟩
theorem RowsP.snoc {w : World} {base : Nat} {rs : List (RSl × RSl)} {ps : List Mo} {r : RSl × RSl} {x : Mo} (h : RowsP w base rs ps) (h1 : OwnI w base (rsv r.1) x.ns) (h2 : OwnI w base (rsv r.2) x.es) : RowsP w base (rs ++ [r]) (ps ++ [x]) := by
  refine ⟨by simp [h.1], fun i r' x' e1 e2 => ?_⟩
  by_cases hi : i < rs.length
  · rw [List.getElem?_append_left hi] at e1
    rw [List.getElem?_append_left (by rw [← h.1]; exact hi)] at e2
    exact h.2 i r' x' e1 e2
  · rw [List.getElem?_append_right (by omega)] at e1
    rw [List.getElem?_append_right (by rw [← h.1]; omega), ← h.1] at e2
    cases hk : i - rs.length with
    | zero =>
      rw [hk] at e1 e2
      simp only [List.getElem?_cons_zero, Option.some.injEq] at e1 e2
      subst e1 e2
      exact ⟨h1, h2⟩
    | succ k => rw [hk] at e1; simp at e1
theorem isP_rows {w : World} {base b2 : Nat} {v : Value} {rs : List (RSl × RSl)} {ps : List Mo} (h : OwnE ERp 27 w base v rs) (hr : RowsP w b2 rs ps) : IsP w v ps := by
  obtain ⟨A, c, rfl, hR⟩ := OwnE.reads h
  refine ⟨A, c, by rw [hr.1], Reads.lift (D := DPart) hR rfl hr.1.symm fun i x y hx hy => ?_⟩
  obtain ⟨h1, h2⟩ := hr.2 i y x hy hx
  obtain ⟨A1, c1, e1, r1⟩ := OwnE.reads h1
  obtain ⟨A2, c2, e2, r2⟩ := OwnE.reads h2
  exact ⟨A1, c1, A2, c2, by show [rsv y.1, rsv y.2] = _; rw [e1, e2], r1, r2⟩

end Go.Proofs.YthnhacncnhknnaaGreatDoor

/-
  DERIVED: THE SHELF's CONTRACTS AT THIS DUMP, IN PLAIN WORDS (tools/lay-plain.mjs out of 'TryzShelf2.lean', which tools/lay-shelf.mjs wrote): THE SAME DECLARATIONS UNDER THE SAME NAMES: 'import', 'namespace', 'open', 'def', 'theorem' AND NOTHING ELSE: no command of the shelf's: FOR A HAND-IN. Each laying: the table of numbers ('.._ren') and one theorem, a field a fact of the dump's own or the kernel's comparison; each contract: ONE APPLICATION.
-/
namespace Go.Proofs
open Go.Shelf
def Tryz.sortPart_ren : Go.Shelf.Ren := ⟨fun | 6 => 43 | 15 => 60 | 14 => 59 | 28 => 80 | 29 => 81 | 20 => 72 | 21 => 73 | 22 => 74 | 23 => 75 | 24 => 76 | 25 => 77 | 26 => 78 | 27 => 79 | 46 => 86 | 47 => 87 | 48 => 88 | 49 => 89 | 50 => 90 | 57 => 99 | n => n, fun | 22 => 46 | 24 => 27 | 25 => 71 | 3 => 3 | 39 => 68 | 0 => 0 | 53 => 91 | 55 => 93 | 4 => 4 | 46 => 96 | 45 => 95 | 50 => 80 | 5 => 5 | 9 => 9 | 66 => 105 | 70 => 109 | 76 => 116 | 77 => 117 | n => n, fun | n => n⟩
theorem Tryz.sortPart : Go.Proofs.SlLaysF0.n6 Tryz.prog Tryz.sortPart_ren := {
  mixed := by kernel_rfl
  f6 := ⟨Tryz.f43.name, by decide, Tryz.func43.trans (congrArg some (by kernel_rfl))⟩
  f14 := ⟨Tryz.f59.name, by decide, Tryz.func59.trans (congrArg some (by kernel_rfl))⟩
  f15 := Tryz.func60.trans (congrArg some (by kernel_rfl))
  f20 := ⟨Tryz.f72.name, by decide, Tryz.func72.trans (congrArg some (by kernel_rfl))⟩
  f21 := ⟨Tryz.f73.name, by decide, Tryz.func73.trans (congrArg some (by kernel_rfl))⟩
  f22 := ⟨Tryz.f74.name, by decide, Tryz.func74.trans (congrArg some (by kernel_rfl))⟩
  f23 := ⟨Tryz.f75.name, by decide, Tryz.func75.trans (congrArg some (by kernel_rfl))⟩
  f24 := ⟨Tryz.f76.name, by decide, Tryz.func76.trans (congrArg some (by kernel_rfl))⟩
  f25 := ⟨Tryz.f77.name, by decide, Tryz.func77.trans (congrArg some (by kernel_rfl))⟩
  f26 := ⟨Tryz.f78.name, by decide, Tryz.func78.trans (congrArg some (by kernel_rfl))⟩
  f27 := ⟨Tryz.f79.name, by decide, Tryz.func79.trans (congrArg some (by kernel_rfl))⟩
  f28 := Tryz.func80.trans (congrArg some (by kernel_rfl))
  f29 := Tryz.func81.trans (congrArg some (by kernel_rfl))
  f46 := ⟨Tryz.f86.name, by decide, Tryz.func86.trans (congrArg some (by kernel_rfl))⟩
  f47 := Tryz.func87.trans (congrArg some (by kernel_rfl))
  f48 := Tryz.func88.trans (congrArg some (by kernel_rfl))
  f49 := ⟨Tryz.f89.name, by decide, Tryz.func89.trans (congrArg some (by kernel_rfl))⟩
  f50 := ⟨Tryz.f90.name, by decide, Tryz.func90.trans (congrArg some (by kernel_rfl))⟩
  f57 := ⟨Tryz.f99.name, by decide, Tryz.func99.trans (congrArg some (by kernel_rfl))⟩
  t0 := Tryz.underlying0
  a0 := Tryz.isAgg0
  z0 := Tryz.sizeOf0
  v0 := Tryz.zeroValue0
  t3 := Tryz.underlying3
  a3 := Tryz.isAgg3
  z3 := Tryz.sizeOf3
  v3 := Tryz.zeroValue3
  t4 := Tryz.underlying4
  a4 := Tryz.isAgg4
  z4 := Tryz.sizeOf4
  v4 := Tryz.zeroValue4
  t5 := Tryz.underlying5
  a5 := Tryz.isAgg5
  z5 := Tryz.sizeOf5
  v5 := Tryz.zeroValue5
  t9 := Tryz.underlying9
  a9 := Tryz.isAgg9
  z9 := Tryz.sizeOf9
  v9 := Tryz.zeroValue9
  t22 := Tryz.underlying46
  a22 := Tryz.isAgg46
  z22 := Tryz.sizeOf46
  v22 := Tryz.zeroValue46
  t25 := Tryz.underlying71
  a25 := Tryz.isAgg71
  z25 := Tryz.sizeOf71
  v25 := Tryz.zeroValue71
  t39 := Tryz.underlying68
  a39 := Tryz.isAgg68
  z39 := Tryz.sizeOf68
  v39 := Tryz.zeroValue68
  t45 := Tryz.underlying95
  a45 := Tryz.isAgg95
  z45 := Tryz.sizeOf95
  v45 := Tryz.zeroValue95
  t46 := Tryz.underlying96
  a46 := Tryz.isAgg96
  z46 := Tryz.sizeOf96
  v46 := Tryz.zeroValue96
  t50 := Tryz.underlying80
  a50 := Tryz.isAgg80
  z50 := Tryz.sizeOf80
  v50 := Tryz.zeroValue80
  t53 := Tryz.underlying91
  a53 := Tryz.isAgg91
  z53 := Tryz.sizeOf91
  v53 := Tryz.zeroValue91
  t55 := Tryz.underlying93
  a55 := Tryz.isAgg93
  z55 := Tryz.sizeOf93
  v55 := Tryz.zeroValue93
  t66 := Tryz.underlying105
  a66 := Tryz.isAgg105
  z66 := Tryz.sizeOf105
  v66 := Tryz.zeroValue105
  t70 := Tryz.underlying109
  a70 := Tryz.isAgg109
  z70 := Tryz.sizeOf109
  v70 := Tryz.zeroValue109
  t76 := Tryz.underlying116
  a76 := Tryz.isAgg116
  z76 := Tryz.sizeOf116
  v76 := Tryz.zeroValue116
  t77 := Tryz.underlying117
  a77 := Tryz.isAgg117
  z77 := Tryz.sizeOf117
  v77 := Tryz.zeroValue117 }
end Go.Proofs

/-
  The program's sort of parts: slices.SortFunc by its comparison.
-/
namespace Go.Proofs.YthnhacncnhknnaaGreatDoor
open Go.RowKit Go.Shelf

theorem heap_sortedV {w : World} {g n : Nat} {os : Array Obj} {cur : Array Value} {e : TypeId} {fr : Nat × Nat} (d : Array Value) (hb : w.heap[g]? = some (.cells cur e fr)) :
    (Sort.grow (Sort.putRow id (Sort.ahead w n) g 0 d) os).heap[g]? = some (.cells (Sort.putCells id 0 d cur) e fr) := by
  have hg : g < w.heap.size := (Array.getElem?_eq_some_iff.1 hb).1
  rw [Sort.heap_grow_old _ _ (by simpa using hg)]
  simp [Sort.putRow, Sort.mapBlock, Sort.ahead, Array.getElem?_modify, hb, Sort.onCells]
theorem grownBy_sortedV {w : World} {g n : Nat} {os : Array Obj} (d : Array Value) : w.grownBy (Sort.grow (Sort.putRow id (Sort.ahead w n) g 0 d) os) (some g) := by
  refine ⟨rfl, rfl, rfl, by simp, fun k hk hne => ?_⟩
  rw [Sort.heap_grow_old _ _ (by simpa using hk)]
  have : g ≠ k := fun e => hne (by rw [e])
  simp [Sort.putRow, Sort.mapBlock, Sort.ahead, Array.getElem?_modify, this]
theorem take_putCellsV (cur : Array Value) (F : Array Value) (h : F.size ≤ cur.size) : (Sort.putCells id 0 F cur).toList.take F.size = F.toList := by
  apply List.ext_getElem?
  intro j
  by_cases hj : j < F.size
  · rw [List.getElem?_take_of_lt hj, Array.getElem?_toList, Array.getElem?_toList]
    simp [Sort.putCells, hj, show j < cur.size by omega]
  · rw [List.getElem?_take_eq_none (by omega), List.getElem?_eq_none (by simp; omega)]

/-- the numbers of rows, and what stands there -/
def rwAt (rs : List (RSl × RSl)) (i : Nat) : List Value := ERp.enc (rs.getD i default)
theorem rwAt_two (rs : List (RSl × RSl)) (i : Nat) : rwAt rs i = [rsv (rs.getD i default).1, rsv (rs.getD i default).2] := rfl
theorem flat_rows (rs : List (RSl × RSl)) (d : Array Nat) : (Sort.flatK (rwAt rs) 2 d).toList = cellsE ERp (d.toList.map fun i => rs.getD i default) := by
  apply List.ext_getElem?
  intro t
  by_cases ht : t < d.size * 2
  · have h1 : (Sort.flatK (rwAt rs) 2 d).toList[t]? = some ((rwAt rs d[t / 2]!)[t % 2]!) := by
      rw [Array.getElem?_toList]
      simp [Sort.flatK, ht]
    have hq : t / 2 < d.size := by omega
    have h2 : (d.toList.map fun i => rs.getD i default)[t / 2]? = some (rs.getD d[t / 2]! default) := by
      rw [List.getElem?_map, Array.getElem?_toList, Array.getElem?_eq_getElem hq]
      simp [hq]
    have h3 := cellsE_get ERp h2 (j := t % 2) (u := (rwAt rs d[t / 2]!)[t % 2]!) (by
      show (rwAt rs d[t / 2]!)[t % 2]? = _
      rw [rwAt_two]
      have : t % 2 = 0 ∨ t % 2 = 1 := by omega
      rcases this with e | e <;> rw [e] <;> rfl)
    rw [h1, show t = t / 2 * ERp.size + t % 2 from (show t = t / 2 * 2 + t % 2 by omega)]
    rw [h3]
    have e1 : (t / 2 * ERp.size + t % 2) / 2 = t / 2 := by show (t / 2 * 2 + t % 2) / 2 = t / 2; omega
    have e2 : (t / 2 * ERp.size + t % 2) % 2 = t % 2 := by show (t / 2 * 2 + t % 2) % 2 = t % 2; omega
    rw [e1, e2]
  · rw [List.getElem?_eq_none (by simp; omega), List.getElem?_eq_none (by rw [cellsE_length]; show (d.toList.map _).length * 2 ≤ t; simp; omega)]
theorem rows_at {w : World} {B : Nat} {rs : List (RSl × RSl)} {l : List Mo} (h : RowsP w B rs l) (hl : ∀ x ∈ l, x.ns.length ≤ 1000 ∧ x.es.length ≤ 1000) (i : Nat) :
    ∃ A a A' a', rwAt rs i = [.slice A (l.getD i default).ns.length a, .slice A' (l.getD i default).es.length a'] ∧ PtAt w A A' (l.getD i default) := by
  by_cases hi : i < l.length
  · have e1 : rs[i]? = some (rs.getD i default) := by
      rw [List.getD_eq_getElem?_getD, List.getElem?_eq_getElem (by rw [h.1]; exact hi)]; rfl
    have e2 : l[i]? = some (l.getD i default) := by
      rw [List.getD_eq_getElem?_getD, List.getElem?_eq_getElem hi]; rfl
    obtain ⟨h1, h2⟩ := h.2 i _ _ e1 e2
    obtain ⟨A1, c1, q1, r1⟩ := OwnE.reads h1
    obtain ⟨A2, c2, q2, r2⟩ := OwnE.reads h2
    have hm := hl _ (getD_mem (d := default) hi)
    exact ⟨A1, c1, A2, c2, by rw [rwAt_two, q1, q2], ⟨r1, r2, hm.1, hm.2⟩⟩
  · have e1 : rs.getD i default = default := by rw [List.getD_eq_getElem?_getD, List.getElem?_eq_none (by rw [h.1]; omega)]; rfl
    have e2 : l.getD i default = default := by rw [List.getD_eq_getElem?_getD, List.getElem?_eq_none (by omega)]; rfl
    rw [rwAt_two, e1, e2]
    exact ⟨none, 0, none, 0, rfl, ⟨.inl rfl, .inl rfl, Nat.zero_le _, Nat.zero_le _⟩⟩
theorem RowsP.kept {w w' : World} {B g : Nat} {rs : List (RSl × RSl)} {l : List Mo} {cs : Array Value} (h : RowsP w B rs l) (hb : w.heap[g]? = some (.cells cs 27 (0, 0))) (hg : w.grownBy w' (some g)) : RowsP w' B rs l :=
  ⟨h.1, fun i r x h1 h2 => ⟨OwnE.kept (h.2 i r x h1 h2).1 hg (.inr (own_far (h.2 i r x h1 h2).1 hb (by decide))), OwnE.kept (h.2 i r x h1 h2).2 hg (.inr (own_far (h.2 i r x h1 h2).2 hb (by decide)))⟩⟩
theorem isAggPart : ∀ w, (isAgg 27).run Tryz.prog w = .ok true w := Tryz.isAgg27
theorem sizeOfPart : ∀ w, (Go.sizeOf 27).run Tryz.prog w = .ok 2 w := Tryz.sizeOf27

theorem sortG_any (rs : List (RSl × RSl)) (l : List Mo) (v : Value) (B : Nat) (w : World) (ho : OwnE ERp 27 w B v rs) (hr : RowsP w B rs l) (hn : 0 < l.length) (h64 : l.length ≤ 1000) (hl : ∀ x ∈ l, x.ns.length ≤ 1000 ∧ x.es.length ≤ 1000) :
    Calls Tryz.prog 43 #[v, .func (.func 44) #[] #[]] w fun e w' => e = .returned (.tuple #[]) ∧ (∃ rs' l', OwnE ERp 27 w' B v rs' ∧ RowsP w' B rs' l' ∧ l'.Perm l ∧ ∀ i j, i < j → j < l'.length → ¬ cmpG (l'.getD j default) (l'.getD i default) < 0) ∧ Below B w w' := by
  have h0 := ho
  have hlen : rs.length = l.length := hr.1
  rcases h0.2 with ⟨e, hz⟩ | ⟨g, cap, cur, e, hbg, hg, h1, h2, h3, h4⟩
  · omega
  · subst e
    have hgs : g < w.heap.size := (Array.getElem?_eq_some_iff.1 hg).1
    have hrange : (Array.range rs.length).toList.map (fun i => rs.getD i default) = rs := by
      apply List.ext_getElem?
      intro i
      by_cases hi : i < rs.length
      · rw [List.getElem?_map]; simp [hi, List.getD_eq_getElem?_getD]
      · rw [List.getElem?_eq_none (by simp; omega), List.getElem?_eq_none (by omega)]
    have hrangel : (Array.range rs.length).toList.map (fun i => l.getD i default) = l := by
      apply List.ext_getElem?
      intro i
      by_cases hi : i < l.length
      · rw [List.getElem?_map]; simp [hi, hlen, List.getD_eq_getElem?_getD]
      · rw [List.getElem?_eq_none (by simp; omega), List.getElem?_eq_none (by omega)]
    have hH : Sort.HoldsK (rwAt rs) 2 w g 0 (Array.range rs.length) := by
      intro j hj
      have hj2 : j < rs.length * 2 := by simpa using hj
      have hf := flat_rows rs (Array.range rs.length)
      rw [hrange] at hf
      refine ⟨?_, World.ownsRow.frozenAt ho _⟩
      rw [Nat.zero_add, World.ownsRow.cellAt ho j hj2, ← hf, Array.getElem?_toList]
      simp [hj2]
    have hcmp : CmpLays Tryz.prog 44 #[] (rwAt rs) 2 (fun i j => cmpG (l.getD i default) (l.getD j default)) g 0 (Array.range rs.length).size w := by
      intro m os dk hdk x y
      have hk := RowsP.kept (w' := sortWorldK (rwAt rs) 2 w g 0 m dk os) hr hg (grownBy_sortedV _)
      obtain ⟨A, a, A', a', q1, p1⟩ := rows_at hk hl x
      obtain ⟨D, b, D', b', q2, p2⟩ := rows_at hk hl y
      rw [q1, q2]
      exact compareG_any _ _ A a A' a' D b D' b' _ p1 p2
    have hcon := AnyQ.slices_SortFunc Tryz.sortPart 2 isAggPart sizeOfPart (rwAt rs) (fun _ => rfl) (fun x v hv => ERp.one _ v hv) (fun i j => cmpG (l.getD i default) (l.getD j default)) (cmp_swo fun i => l.getD i default) 44 #[] g 0 cap (Array.range rs.length) w (enters_of Tryz.func44 (by kernel_rfl) rfl) hcmp hH hgs (by simp; omega)
    change Calls Tryz.prog 43 _ _ _ at hcon
    rw [show (Array.range rs.length).size = rs.length from Array.size_range] at hcon
    refine hcon.mono ?_
    rintro e w' ⟨rfl, d', n, os, ⟨hs, _, hp⟩, hso, rfl⟩
    have hsz : d'.size = rs.length := by simpa using hs
    have hperm : d'.toList.Perm (List.range rs.length) := by
      have h5 := hp
      rw [show d'.extract 0 rs.length = d' by rw [← hsz]; simp, show (Array.range rs.length).extract 0 rs.length = Array.range rs.length by have := Array.size_range (n := rs.length); simp] at h5
      simpa using h5
    have hlt : ∀ k ∈ d'.toList, k < rs.length := fun k hk => by
      have := hperm.mem_iff.1 hk
      simpa using this
    have hgr : w.grownBy (sortWorldK (rwAt rs) 2 w g 0 n d' os) (some g) := grownBy_sortedV _
    refine ⟨rfl, ⟨d'.toList.map (fun i => rs.getD i default), d'.toList.map (fun i => l.getD i default), ?_, ?_, ?_, ?_⟩, (Below.refl _ _).grown hgr (by omega) (fun k hk => by injection hk with hk; omega)⟩
    · have hb := heap_sortedV (n := n) (os := os) (Sort.flatK (rwAt rs) 2 d') hg
      have hcs : cur.size = cap * 2 := h3
      have ht := take_putCellsV cur (Sort.flatK (rwAt rs) 2 d') (by simp; omega)
      rw [flat_rows, Sort.size_flatK, hsz] at ht
      have hl2 : (d'.toList.map fun i => rs.getD i default).length = rs.length := by simp [hsz]
      unfold OwnE
      rw [hl2]
      refine ⟨by rw [cellsE_length, hl2], .inr ⟨g, cap, _, rfl, hbg, hb, h1, h2, by simp [Sort.putCells, h3], ?_⟩⟩
      exact ht
    · have hk := RowsP.kept hr hg hgr
      refine ⟨by simp, fun i r x e1 e2 => ?_⟩
      rw [List.getElem?_map] at e1 e2
      obtain ⟨k, hk1, rfl⟩ := Option.map_eq_some_iff.1 e1
      rw [hk1] at e2
      simp only [Option.map_some, Option.some.injEq] at e2
      subst e2
      have hkl := hlt k (List.mem_of_getElem? hk1)
      refine hk.2 k _ _ ?_ ?_
      · rw [List.getD_eq_getElem?_getD, List.getElem?_eq_getElem hkl]; rfl
      · rw [List.getD_eq_getElem?_getD, List.getElem?_eq_getElem (by omega)]; rfl
    · have h5 := hperm.map (fun i => l.getD i default)
      have h6 : (List.range rs.length).map (fun i => l.getD i default) = l := by simpa using hrangel
      rw [h6] at h5
      exact h5
    · intro i j hij hj
      have hjn : j < d'.size := by simpa using hj
      have hs2 := hso i j (Nat.zero_le _) hij (by simpa [hsz] using hjn)
      unfold ltOf at hs2
      have a1 : (d'.toList.map fun i => l.getD i default).getD j default = l.getD d'[j]! default := by
        rw [List.getD_eq_getElem?_getD, List.getElem?_map, Array.getElem?_toList, Array.getElem?_eq_getElem hjn]; simp [hjn]
      have a2 : (d'.toList.map fun i => l.getD i default).getD i default = l.getD d'[i]! default := by
        rw [List.getD_eq_getElem?_getD, List.getElem?_map, Array.getElem?_toList, Array.getElem?_eq_getElem (by omega)]; simp [show i < d'.size by omega]
      rw [a1, a2]
      simpa using hs2

end Go.Proofs.YthnhacncnhknnaaGreatDoor

/-
  Parts of graphs, the program: All. Printed by mkg7.py.
-/
namespace Go.Proofs.YthnhacncnhknnaaGreatDoor
open Go.RowKit Go.Shelf

theorem bP_ok (g : Gr) (a b : Nat) : (bP g a b).ns.length ≤ g.ns.length ∧ (bP g a b).es.length ≤ g.es.length := ⟨sel_le _ _, sel_le _ _⟩
theorem bP_bts {g : Gr} {a b : Nat} (h6 : g.ns.length + g.es.length ≤ 6) (ha : a < 2 ^ g.ns.length) (hb : b < 2 ^ g.es.length) : bP g a b = ⟨bts a, bts b⟩ := by
  unfold bP
  rw [bts_sel ha (by omega), bts_sel hb (by omega)]
theorem pow_six {n : Nat} (h : n ≤ 6) : 0 < 2 ^ n ∧ 2 ^ n ≤ 64 := ⟨Nat.two_pow_pos n, by have := Nat.pow_le_pow_right (n := 2) (by omega) h; simpa using this⟩
theorem in_succ_yes {g : Gr} {a k : Nat} (h : rightE g (bP g a k) = 0) : inA g a (k + 1) = inA g a k ++ [bP g a k] := by
  show inA g a k ++ (if rightE g (bP g a k) = 0 then [bP g a k] else []) = _
  rw [if_pos h]
theorem in_succ_no {g : Gr} {a k : Nat} (h : rightE g (bP g a k) ≠ 0) : inA g a (k + 1) = inA g a k := by
  show inA g a k ++ (if rightE g (bP g a k) = 0 then [bP g a k] else []) = _
  rw [if_neg h, List.append_nil]
theorem out_succ (g : Gr) (k : Nat) : outA g (k + 1) = outA g k ++ inA g k (2 ^ g.es.length) := rfl
def AllPost (E : Nat) (l : List Mo) (w : World) (e : Ending) (w' : World) : Prop := (∃ v, e = .returned (.tuple #[v, .int .i64 (E : Nat)]) ∧ IsP w' v l) ∧ Below w.heap.size w w'
theorem shl_one {n : Nat} (h : n ≤ 6) : IntKind.u64.wrap ((2 : Int) ^ n) = ((2 ^ n : Nat) : Int) := by
  have hn : n = 0 ∨ n = 1 ∨ n = 2 ∨ n = 3 ∨ n = 4 ∨ n = 5 ∨ n = 6 := by omega
  rcases hn with rfl | rfl | rfl | rfl | rfl | rfl | rfl <;> rfl

set_option maxRecDepth 100000 in
set_option maxHeartbeats 4000000 in
theorem allG_any : AllC 19 := by
  intro g An cn Ae ce w hT hg
  suffices key : Calls Tryz.prog 19 #[gval An g.ns.length cn Ae g.es.length ce] w (AllPost (pAllE g) (pAllR g) w) from key
  have hS0 : SR w [(.slice An g.ns.length cn, .slice Ae g.es.length ce, 25)] (w.alloc (.cells #[.slice An g.ns.length cn, .slice Ae g.es.length ce] 25)) := SR.push (SR.nil w) rfl _ _ _
  have HV := Lib.hid (fun (u : World) (hu : Below w.heap.size w u) => validP_any g An cn Ae ce u (hg.up hu))
  have HVP := Lib.hid (fun (p : Mo) X x Y y (u : World) (hu : Below w.heap.size w u) (hp : PtAt u X Y p) => validG_any g p An cn Ae ce X x Y y u (hg.up hu) hp)
  have HMB := Lib.hid (fun (s : Nat) (hs : s < 64) (u : World) (hu : Below w.heap.size w u) => membersG_any s u hs (hT.up hu))
  have HE : Hid (pAllE g = if validE g ≠ 0 then validE g else if 6 < g.ns.length + g.es.length then 3 else 0) := Lib.hid rfl
  have HR : Hid (pAllR g = if pAllE g = 0 then pAll g else []) := Lib.hid rfl
  have HZ := Lib.hid (fun (hv : validE g = 0) => valid_zero hv)
  have HPE : Hid (validE g = 0 → ∀ p, partE g p = rightE g p) := Lib.hid fun hv p => by unfold partE; rw [if_neg (by omega)]
  have HSORT : Hid (∀ l : List Mo, l.Perm (outA g (2 ^ g.ns.length)) → (∀ i j, i < j → j < l.length → ¬ cmpG (l.getD j default) (l.getD i default) < 0) → l = pAll g) := Lib.hid fun l h1 h2 => all_sorted h1 h2
  have HPOS : Hid (0 < (outA g (2 ^ g.ns.length)).length) := Lib.hid (by
    have hm : (⟨[], []⟩ : Mo) ∈ outA g (2 ^ g.ns.length) := outA_mem.2 ⟨List.Pairwise.nil, (fun x hx => by cases hx), List.Pairwise.nil, (fun x hx => by cases hx), (fun i hi => by cases hi)⟩
    exact List.length_pos_of_mem hm)
  have HLEN : Hid (g.ns.length + g.es.length ≤ 6 → ∀ x ∈ outA g (2 ^ g.ns.length), x.ns.length ≤ 1000 ∧ x.es.length ≤ 1000) := Lib.hid fun h6 x hx => by
    have hk := outA_mem.1 hx
    have a1 := asc_len hk.an hk.rn
    have a2 := asc_len hk.ae hk.re
    omega
  have HCNT : Hid (g.ns.length + g.es.length ≤ 6 → ∀ k j, k < 2 ^ g.ns.length → j ≤ 2 ^ g.es.length → (outA g k ++ inA g k j).length ≤ 64) := Lib.hid fun h6 k j hk hj => by
    have h1 := outA_len g k
    have h2 := inA_len g k j
    have h3 : (k + 1) * 2 ^ g.es.length ≤ 2 ^ g.ns.length * 2 ^ g.es.length := Nat.mul_le_mul_right _ (by omega)
    have h4 : 2 ^ g.ns.length * 2 ^ g.es.length ≤ 64 := by rw [← Nat.pow_add]; exact (pow_six h6).2
    rw [Nat.succ_mul] at h3
    rw [List.length_append]
    omega
  have HCN2 : Hid (g.ns.length + g.es.length ≤ 6 → (outA g (2 ^ g.ns.length)).length ≤ 64) := Lib.hid fun h6 => by
    have h1 := outA_len g (2 ^ g.ns.length)
    have h4 : 2 ^ g.ns.length * 2 ^ g.es.length ≤ 64 := by rw [← Nat.pow_add]; exact (pow_six h6).2
    omega
  have HBP := Lib.hid (fun (h6 : g.ns.length + g.es.length ≤ 6) a b (ha : a < 2 ^ g.ns.length) (hb : b < 2 ^ g.es.length) => bP_bts h6 ha hb)
  have HIY := Lib.hid (fun a k (h : rightE g (bP g a k) = 0) => in_succ_yes h)
  have HIN := Lib.hid (fun a k (h : rightE g (bP g a k) ≠ 0) => in_succ_no h)
  have HOS := Lib.hid (fun k => out_succ g k)
  have HI0 : Hid (∀ a, inA g a 0 = []) := Lib.hid fun _ => rfl
  have HO0 : Hid (outA g 0 = []) := Lib.hid rfl
  have HS0 := Lib.hid hS0
  clear hS0 hg hT
  generalize pAllR g = R at *
  generalize pAllE g = E at *
  generalize pAll g = PA at *
  go_enter Tryz.func19, Tryz.ntmps19
  obtain ⟨c0, c1⟩ := HS0.out.cell (i := 0) rfl
  simp only [Nat.add_zero] at c0 c1
  go_wp2_with fail
  refine (HV.out _ HS0.out.1).mono ?_
  rintro e w1 ⟨rfl, hb1⟩
  have HS1 := Lib.hid (HS0.out.up hb1)
  clear hb1 HS0 HV c0 c1
  obtain ⟨c0, c1⟩ := HS1.out.cell (i := 0) rfl
  simp only [Nat.add_zero] at c0 c1
  by_cases h1 : validE g = 0
  case neg =>
    have HEE := Lib.hid (show E = validE g by rw [HE.out, if_pos h1])
    have HRR := Lib.hid (show R = [] by rw [HR.out, if_neg (by rw [HEE.out]; exact h1)])
    have t1 : ((validE g : Int) != 0) = true := by simp; omega
    clear h1
    generalize validE g = z at *
    go_wp2_with fail
    go_ret2
    rw [HRR.out, HEE.out]
    unfold AllPost
    exact ⟨⟨_, rfl, isP_nil _⟩, HS1.out.1⟩
  have HPR := Lib.hid (HPE.out h1)
  obtain ⟨v1, v2, _⟩ := HZ.out h1
  have HE2 := Lib.hid (show E = if 6 < g.ns.length + g.es.length then 3 else 0 by rw [HE.out, if_neg (by omega)])
  have t1 : ((validE g : Int) != 0) = false := by simp; omega
  clear h1 HE HPE HZ
  generalize validE g = z at *
  by_cases h6 : 6 < g.ns.length + g.es.length
  case pos =>
    have HEE := Lib.hid (show E = 3 by rw [HE2.out, if_pos h6])
    have HRR := Lib.hid (show R = [] by rw [HR.out, if_neg (by rw [HEE.out]; omega)])
    have t2 : (6 : Int) < (g.ns.length : Int) + (g.es.length : Int) := by omega
    clear h6
    go_wp2_with fail
    go_ret2
    rw [HRR.out, HEE.out]
    unfold AllPost
    exact ⟨⟨_, rfl, isP_nil _⟩, HS1.out.1⟩
  have HEE := Lib.hid (show E = 0 by rw [HE2.out, if_neg h6])
  have HRR := Lib.hid (show R = PA by rw [HR.out, if_pos HEE.out])
  have t2 : ¬ (6 : Int) < (g.ns.length : Int) + (g.es.length : Int) := by omega
  have h66 : g.ns.length + g.es.length ≤ 6 := by omega
  have HLN2 := Lib.hid (HLEN.out h66)
  have HCNT2 := Lib.hid (HCNT.out h66)
  have HCN22 := Lib.hid (HCN2.out h66)
  have HBP2 := Lib.hid (HBP.out h66)
  have s1 := shl_one (n := g.ns.length) (by omega)
  have s2 := shl_one (n := g.es.length) (by omega)
  have p1 := (pow_six (n := g.ns.length) (by omega)).2
  have p2 := (pow_six (n := g.es.length) (by omega)).2
  have n1 : g.ns.length ≤ 6 := by omega
  have n2 : g.es.length ≤ 6 := by omega
  clear h6 h66 HE2 HR HLEN HCNT HCN2 HBP v1 v2
  generalize 2 ^ g.ns.length = N1 at *
  generalize 2 ^ g.es.length = N2 at *
  obtain ⟨B0, hB0⟩ : ∃ B0, B0 = w1.heap.size := ⟨_, rfl⟩
  have HB0 : Hid (w.heap.size + 1 ≤ B0) := Lib.hid (by rw [hB0]; exact heap_lt (HS1.out.2 0 _ rfl))
  have HBW : Hid (B0 ≤ w1.heap.size) := Lib.hid (Nat.le_of_eq hB0)
  clear hB0
  go_wp2_with fail
  clear t1 t2 c0 c1
  go_loopw [5, 26] (fun v x wr => ∃ (k : Nat) (rs : List (RSl × RSl)), k ≤ N1 ∧ x = .int .u64 (k : Int) ∧ OwnE ERp 27 wr B0 v rs ∧ RowsP wr B0 rs (outA g k) ∧ SR w [(.slice An g.ns.length cn, .slice Ae g.es.length ce, 25)] wr ∧ B0 ≤ wr.heap.size) (fun _ x _ => N1 - (intOf x).toNat)
  case atStart => exact ⟨0, [], Nat.zero_le _, rfl, OwnE.nil _ _ _, ⟨by rw [HO0.out]; rfl, fun i r x h => by simp at h⟩, HS1.out, HBW.out⟩
  case round =>
    clear HS1 HBW
    obtain ⟨k, rs, hk, rfl, hO, hRW, hsr, hsz⟩ := hrel
    have HO := Lib.hid hO
    have HRW := Lib.hid hRW
    have HS := Lib.hid hsr
    have HSZ := Lib.hid hsz
    obtain ⟨ao, cap, rfl⟩ := OwnE.slice hO
    obtain ⟨c0, c1⟩ := HS.out.cell (i := 0) rfl
    simp only [Nat.add_zero] at c0 c1
    clear hO hRW hsr hsz
    by_cases hlt : k < N1
    · have HLT := Lib.hid hlt
      have HM : Hid (N1 - ((k : Int) + 1).toNat < N1 - ((k : Int)).toNat) := Lib.hid (by omega)
      have HRS : Hid (RowsP wr B0 rs (outA g k ++ inA g k 0)) := Lib.hid (by rw [HI0.out, List.append_nil]; exact HRW.out)
      have HOSK := Lib.hid (HOS.out k)
      have HK64 : Hid (k < 64) := Lib.hid (by omega)
      obtain ⟨wo, hwo⟩ : ∃ wo : World, wo = wr := ⟨_, rfl⟩
      subst hwo
      go_wp2_with fail
      clear c0 c1 HRW
      go_loopw [5, 33] (fun v x wr => ∃ (j : Nat) (rs : List (RSl × RSl)), j ≤ N2 ∧ x = .int .u64 (j : Int) ∧ OwnE ERp 27 wr B0 v rs ∧ RowsP wr B0 rs (outA g k ++ inA g k j) ∧ SR w [(.slice An g.ns.length cn, .slice Ae g.es.length ce, 25)] wr ∧ B0 ≤ wr.heap.size) (fun _ x _ => N2 - (intOf x).toNat)
      case atStart => exact ⟨0, rs, Nat.zero_le _, rfl, HO.out, HRS.out, HS.out, HSZ.out⟩
      case round =>
        clear HO HRS HS HSZ
        obtain ⟨j, rs2, hj, rfl, hO, hRW, hsr, hsz⟩ := hrel
        have HO := Lib.hid hO
        have HRW := Lib.hid hRW
        have HS := Lib.hid hsr
        have HSZ := Lib.hid hsz
        obtain ⟨ao, cap, rfl⟩ := OwnE.slice hO
        clear hO hRW hsr hsz
        by_cases hltj : j < N2
        · have HLTJ := Lib.hid hltj
          have HMJ : Hid (N2 - ((j : Int) + 1).toNat < N2 - ((j : Int)).toNat) := Lib.hid (by omega)
          have HRL : Hid (rs2.length ≤ 64) := Lib.hid (by rw [HRW.out.1]; exact HCNT2.out k j HLT.out hj)
          have HBPK := Lib.hid (HBP2.out k j HLT.out hltj)
          have HIYK := Lib.hid (HIY.out k j)
          have HINK := Lib.hid (HIN.out k j)
          have HQ1 := Lib.hid (HMB.out k HK64.out wr HS.out.1)
          have HQ2 := Lib.hid (fun (u : World) (hu : Below w.heap.size w u) => HMB.out j (by omega) u hu)
          have HTL : Hid ((bts k).length ≤ 6 ∧ (bts j).length ≤ 6) := Lib.hid ⟨bts_len k, bts_len j⟩
          rw [HBPK.out] at HIYK HINK
          have HRR9 : Hid (∀ p, partE g p = rightE g p) := HPR
          go_wp2_with fail
          refine HQ1.out.mono ?_
          rintro e u1 ⟨v1, rfl, ho1, hb1⟩
          have HS1 := Lib.hid (HS.out.up hb1)
          have HO1 := Lib.hid (OwnE.below HO.out hb1 (Nat.le_refl _))
          have HR1 := Lib.hid (RowsP.below HRW.out hb1 (Nat.le_refl _))
          have HA1 := Lib.hid (OwnE.mono ho1 HSZ.out)
          have HZ1 := Lib.hid (Nat.le_trans HSZ.out hb1.size)
          obtain ⟨a1, c1, rfl⟩ := OwnE.slice ho1
          clear ho1 hb1 HS HO HRW HSZ
          go_wp2_with fail
          refine (HQ2.out _ HS1.out.1).mono ?_
          rintro e u2 ⟨v2, rfl, ho2, hb2⟩
          have HS2 := Lib.hid (HS1.out.up hb2)
          have HO2 := Lib.hid (OwnE.below HO1.out hb2 (Nat.le_refl _))
          have HR2 := Lib.hid (RowsP.below HR1.out hb2 (Nat.le_refl _))
          have HA2 := Lib.hid (OwnE.below HA1.out hb2 (Nat.le_refl _))
          have HA2' := Lib.hid (OwnE.mono ho2 HZ1.out)
          have HZ2 := Lib.hid (Nat.le_trans HZ1.out hb2.size)
          obtain ⟨a2, c2, rfl⟩ := OwnE.slice ho2
          clear ho2 hb2 HS1 HO1 HR1 HA1 HZ1
          generalize bts k = b1 at *
          generalize bts j = b2 at *
          go_upto_region 14 with fail
          have hba : Below u2.heap.size u2 (u2.alloc (.cells #[.slice a1 b1.length c1, .slice a2 b2.length c2] 27)) := (Below.refl _ _).alloc (Nat.le_refl _) _
          have HX3 : Hid (BX u2.heap.size (.slice a1 b1.length c1) (.slice a2 b2.length c2) 27 (u2.alloc (.cells #[.slice a1 b1.length c1, .slice a2 b2.length c2] 27))) := Lib.hid (heap_alloc_new _ _)
          have HS3 := Lib.hid (HS2.out.up hba)
          have HO3 := Lib.hid (OwnE.below HO2.out hba (Nat.le_refl _))
          have HR3 := Lib.hid (RowsP.below HR2.out hba (Nat.le_refl _))
          have HA3 := Lib.hid (OwnE.below HA2.out hba (Nat.le_refl _))
          have HA3' := Lib.hid (OwnE.below HA2'.out hba (Nat.le_refl _))
          have HZ3 := Lib.hid (Nat.le_trans HZ2.out hba.size)
          clear hba HS2 HO2 HR2 HA2 HA2' HZ2
          generalize u2.alloc (.cells #[.slice a1 b1.length c1, .slice a2 b2.length c2] 27) = u3 at *
          generalize u2.heap.size = gx at *
          have HPT : Hid (PtAt u3 a1 a2 (⟨b1, b2⟩ : Mo)) := Lib.hid (by
            obtain ⟨Y1, y1, e1, q1⟩ := OwnE.reads HA3.out
            obtain ⟨Y2, y2, e2, q2⟩ := OwnE.reads HA3'.out
            injection e1 with e1 _ _
            injection e2 with e2 _ _
            rw [← e1] at q1
            rw [← e2] at q2
            exact ⟨q1, q2, by have := HTL.out.1; show b1.length ≤ 1000; omega, by have := HTL.out.2; show b2.length ≤ 1000; omega⟩)
          have HQV := Lib.hid (HVP.out (⟨b1, b2⟩ : Mo) a1 c1 a2 c2 u3 HS3.out.1 HPT.out)
          rw [HRR9.out] at HQV
          obtain ⟨d0, d1⟩ := HS3.out.cell (i := 0) rfl
          simp only [Nat.add_zero] at d0 d1
          obtain ⟨x0, x1⟩ := HX3.out.cells
          generalize rightE g ⟨b1, b2⟩ = r at *
          go_wp2_with fail
          refine HQV.out.mono ?_
          rintro e u4 ⟨rfl, hb4⟩
          have HX4 := Lib.hid (HX3.out.up hb4)
          have HS4 := Lib.hid (HS3.out.up hb4)
          have HO4 := Lib.hid (OwnE.below HO3.out hb4 (Nat.le_refl _))
          have HR4 := Lib.hid (RowsP.below HR3.out hb4 (Nat.le_refl _))
          have HA4 := Lib.hid (OwnE.below HA3.out hb4 (Nat.le_refl _))
          have HA4' := Lib.hid (OwnE.below HA3'.out hb4 (Nat.le_refl _))
          have HZ4 := Lib.hid (Nat.le_trans HZ3.out hb4.size)
          clear hb4 HX3 HS3 HO3 HR3 HA3 HA3' HZ3 d0 d1 x0 x1 HPT HQV
          by_cases hr : r = 0
          case neg =>
            have HI2 := Lib.hid (HINK.out hr)
            have t3 : ((r : Int) == 0) = false := by simp; omega
            clear hr
            go_wp2_with fail
            go_roundw
            case rel => exact ⟨j + 1, rs2, HLTJ.out, by go_num, HO4.out, by rw [HI2.out]; exact HR4.out, HS4.out, HZ4.out⟩
            case measure => exact HMJ.out
          case pos =>
            have HI2 := Lib.hid (HIYK.out hr)
            have t3 : ((r : Int) == 0) = true := by simp; omega
            clear hr
            obtain ⟨x0, x1⟩ := HX4.out.cells
            go_wp2_with (at_builtin; refine wpList_append_E (E := ERp) (w := u4.alloc _) rfl _ _ 46 27 rfl Tryz.underlying46 infoPart rfl (by decide) (by decide) B0 _ rs2 rfl ?y1 ⟨u4.heap.size, 0, none⟩ 1 ((a1, b1.length, c1), (a2, b2.length, c2)) rfl ?y2 ?y3 ?y4 ?_)
            case y1 => exact HO4.out.alloc _
            case y2 => exact news_of (E := ERp) (heap_alloc_new _ _) rfl
            case y3 => have := HRL.out; omega
            case y4 => have := HZ4.out; simp; omega
            intro v5 w5 ho5 hg5 hb5
            have hgr := Grow.own (HO4.out.alloc _) hg5 hb5
            have hr5 := RowsP.snoc (r := ((a1, b1.length, c1), (a2, b2.length, c2))) (x := ⟨b1, b2⟩) ((RowsP.below HR4.out (below_a _ _) (Nat.le_refl _)).grow (by decide) hgr) (hgr.row (by decide) (OwnE.alloc HA4.out _)) (hgr.row (by decide) (OwnE.alloc HA4'.out _))
            rw [List.append_assoc, ← HI2.out] at hr5
            have HR5 := Lib.hid hr5
            have HS5 := Lib.hid (SR.low (HS4.out.up (below_a _ _)) HB0.out hb5)
            have HO5 := Lib.hid ho5
            have HZ5 : Hid (B0 ≤ w5.heap.size) := Lib.hid (Nat.le_trans HZ4.out (Nat.le_trans (by simp) hb5.size))
            obtain ⟨ao3, cap3, rfl⟩ := OwnE.slice ho5
            clear ho5 hg5 hb5 hgr hr5 x0 x1
            go_wp2_with fail
            go_roundw
            case rel => exact ⟨j + 1, _, HLTJ.out, by go_num, HO5.out, HR5.out, HS5.out, HZ5.out⟩
            case measure => exact HMJ.out
        · have e : j = N2 := by omega
          subst e
          have HR9 : Hid (RowsP wr B0 rs2 (outA g (k + 1))) := Lib.hid (by rw [HOSK.out]; exact HRW.out)
          go_wp2_with fail
          go_roundw
          case rel => exact ⟨k + 1, rs2, HLT.out, by go_num, HO.out, HR9.out, HS.out, HSZ.out⟩
          case measure => exact HM.out
    · have e : k = N1 := by omega
      subst e
      have HQ := Lib.hid (sortG_any rs (outA g k) (.slice ao rs.length cap) B0 wr HO.out HRW.out HPOS.out (by have := HCN22.out; omega) HLN2.out)
      clear c0 c1
      go_wp2_with fail
      refine HQ.out.mono ?_
      rintro e w9 ⟨rfl, ⟨rs', l', ho9, hr9, hp9, hs9⟩, hb9⟩
      have HL := Lib.hid (HSORT.out l' hp9 hs9)
      have HPP := Lib.hid (isP_rows ho9 hr9)
      have HB9 := Lib.hid ((SR.low HS.out HB0.out hb9).1)
      clear ho9 hr9 hp9 hs9 hb9
      go_wp2_with fail
      go_ret2
      rw [HRR.out, HEE.out]
      unfold AllPost
      exact ⟨⟨_, rfl, by rw [← HL.out]; exact HPP.out⟩, HB9.out⟩

end Go.Proofs.YthnhacncnhknnaaGreatDoor
