import Derived.Test.YtaeelanbkdkppaaDoorV02
import Derived.Deep.DeepCutAuto
import Derived.Deep.RegionLaw
import Derived.Deep.RegionLawGrows
import Derived.BigQuiet
/-
  The program's narrowing of choices.
-/
namespace Go.Proofs.YtaeelanbkdkppaaDoor
open Go.RowKit

theorem oper_at {l r : List Oper} {i : Nat} {o : Oper} (h : l.drop i = o :: r) : l.toArray[i]? = some o := by
  have h2 : (l.drop i)[0]? = some o := by rw [h]; rfl
  rw [List.getElem?_drop] at h2
  simpa using h2

/-- a finder: its box, its links -/
structure FinAt (w : World) (fb g : Nat) (A : Option Addr) (cap : Nat) (ls : List Lk) : Prop where
  box : w.cell? ⟨fb, 0, none⟩ = some (.slice A ls.length cap)
  lt : fb < w.heap.size
  at_ : ∀ i (h : i < ls.length), A = some ⟨g, 0, none⟩ ∧ g < w.heap.size ∧ g ≠ fb ∧ LkAt w g (i * 43) ls[i] ∧ (∃ z : Int, w.cell? ⟨g, i * 43 + 42, none⟩ = some (.int .i64 z)) ∧ w.frozen? ⟨g, i * 43 + 42, none⟩ = false
/-- the sum of an array of sets, as it lies -/
def sumW (w : World) (g : Nat) : Nat := ((List.range 40).map fun i => match w.cell? ⟨g, i, none⟩ with | some v => (intOf v).toNat | none => 0).sum
noncomputable def sizeW (w : World) (g : Nat) : Nat := Classical.epsilon fun n => n = sumW w g
theorem sizeW_eq {w : World} {t : TypeId} {g : Nat} {c : Chs} (h : ChAt w t g c) : sizeW w g = sizeC c := by
  have e : sizeW w g = sumW w g := Classical.epsilon_spec (p := fun n => n = sumW w g) ⟨_, rfl⟩
  rw [e]
  unfold sumW sizeC
  congr 1
  apply List.map_congr_left
  intro i hi
  rw [h.cell (by simpa using hi)]
  simp [intOf]
theorem FinAt.up {w w' : World} {fb g : Nat} {A : Option Addr} {cap : Nat} {ls : List Lk} (h : FinAt w fb g A cap ls) (hs : w.heap.size ≤ w'.heap.size) (h1 : w'.heap[fb]? = w.heap[fb]?) (h2 : 0 < ls.length → w'.heap[g]? = w.heap[g]?) : FinAt w' fb g A cap ls := by
  refine ⟨(cell_heap (p := ⟨fb, 0, none⟩) h1).trans h.box, Nat.lt_of_lt_of_le h.lt hs, fun i hi => ?_⟩
  obtain ⟨a1, a2, a3, a4, ⟨z, a5⟩, a6⟩ := h.at_ i hi
  have h2 := h2 (by omega)
  refine ⟨a1, by omega, a3, a4.up h2, ⟨z, (cell_heap (p := ⟨g, i * 43 + 42, none⟩) h2).trans a5⟩, ?_⟩
  unfold World.frozen? at a6 ⊢
  rw [h2]
  exact a6
theorem FinAt.below {w w' : World} {fb g : Nat} {A : Option Addr} {cap : Nat} {ls : List Lk} (h : FinAt w fb g A cap ls) (hb : Below w.heap.size w w') : FinAt w' fb g A cap ls := h.up hb.size (hb.block _ h.lt) fun hg => hb.block _ (h.at_ 0 hg).2.1
theorem setCell_frozen (w : World) (p a : Addr) (v : Value) : (w.setCell p v).frozen? a = w.frozen? a := World.frozen?_setCell w p a v
theorem FinAt.blame {w : World} {fb g : Nat} {cap : Nat} {ls : List Lk} (h : FinAt w fb g (some ⟨g, 0, none⟩) cap ls) (k : Nat) (hk : k < ls.length) (z : Int) : FinAt (w.setCell ⟨g, k * 43 + 42, none⟩ (.int .i64 z)) fb g (some ⟨g, 0, none⟩) cap ls := by
  obtain ⟨_, _, hne, _, ⟨z0, hz0⟩, _⟩ := h.at_ k hk
  have oc : ∀ j, j ≠ k * 43 + 42 → (w.setCell ⟨g, k * 43 + 42, none⟩ (.int .i64 z)).cell? ⟨g, j, none⟩ = w.cell? ⟨g, j, none⟩ := fun j hj => by
    exact World.cell?_setCell_other _ _ _ _ (fun e => hj (by injection e with _ e _; exact e.symm))
  refine ⟨(World.cell?_setCell_far w _ ⟨fb, 0, none⟩ _ hne).trans h.box, by simpa [World.setCell] using h.lt, fun i hi => ?_⟩
  obtain ⟨a1, a2, a3, a4, ⟨z5, a5⟩, a6⟩ := h.at_ i hi
  refine ⟨a1, by simpa [World.setCell] using a2, a3, ⟨(oc _ (by omega)).trans a4.fr, (oc _ (by omega)).trans a4.tq, fun v hv => (oc _ (by omega)).trans (a4.re v hv)⟩, ?_, (setCell_frozen _ _ _ _).trans a6⟩
  by_cases e : i = k
  · subst e
    exact ⟨z, World.cell?_setCell_same' _ _ _ (by rw [hz0]; rfl)⟩
  · exact ⟨z5, (oc _ (by omega)).trans a5⟩

/-- what narrow answers -/
def NarEnd (n : Nat) (ls : List Lk) (c : Choices) (fb g : Nat) (A : Option Addr) (cap : Nat) (w : World) (e : Ending) (w' : World) : Prop :=
  ∃ (c' : Choices) (b : Bool), e = .returned (.tuple #[.agg (chA c'), .bool b]) ∧ Keeps (fun i => i = g ∧ 0 < ls.length) w w' ∧ FinAt w' fb g A cap ls ∧ Small c' ∧
      (b = true → (∀ l, Sol n ls c l ↔ Sol n ls c' l) ∧ Stable ls c' ∧ Sub c' c ∧ ∀ i, c i ≠ 0 → c' i ≠ 0) ∧ (b = false → ∀ l, ¬ Sol n ls c l)

set_option maxRecDepth 100000 in
set_option maxHeartbeats 2000000 in
theorem narrow_any (n : Nat) (hn : n ≤ 40) (ls : List Lk) (hls : LsOk n ls) (hll : ls.length ≤ 1000) (c : Choices) (hc : Small c) (fb g : Nat) (A : Option Addr) (cap : Nat) (w : World) (h00 : 0 < w.heap.size) (hT : TabW w) (hg0 : g ≠ 0) (hF : FinAt w fb g A cap ls) :
    Calls Tryd.prog 94 #[.pointer (some ⟨fb, 0, none⟩), .agg (chA c)] w (NarEnd n ls c fb g A cap w) := by
  go_enter Tryd.func94, Tryd.ntmps94
  go_upto_region 1 with (simp only [ch_zero])
  generalize hW0 : (w.alloc _).alloc _ = W0
  have hs0 : W0.heap.size = w.heap.size + 2 := by rw [← hW0]; simp
  have hB0 : Below w.heap.size w W0 := by
    rw [← hW0]
    exact ((Below.refl _ _).alloc (Nat.le_refl _) _).alloc (by simp) _
  have hc0 : ChAt W0 108 w.heap.size c := by
    rw [← hW0]; exact (ChAt.new w _ c).alloc _
  have hr0 : ChAt W0 108 (w.heap.size + 1) (fun _ => 0) := by
    rw [← hW0]
    have := ChAt.new (w.alloc (.cells (chA c) 108)) 108 (fun _ => 0)
    rwa [World.size_alloc] at this
  have hF0 := hF.below hB0
  have hlt := hF.lt
  clear hW0
  go_loopw [] (fun wr => ∃ c1 : Choices, Small c1 ∧ (∀ l, Sol n ls c l ↔ Sol n ls c1 l) ∧ Sub c1 c ∧ (∀ i, c i ≠ 0 → c1 i ≠ 0) ∧ ChAt wr 108 w.heap.size c1 ∧ ChAt wr 108 (w.heap.size + 1) (fun _ => 0) ∧ FinAt wr fb g A cap ls ∧ Keeps (fun i => (i = g ∧ 0 < ls.length) ∨ w.heap.size ≤ i) w wr) (fun wr => sizeW wr w.heap.size)
  case atStart => exact ⟨c, hc, fun _ => Iff.rfl, Sub.refl _, fun _ h => h, hc0, hr0, hF0, Keeps.of_below hB0 fun i h1 h2 => by omega⟩
  case round =>
    obtain ⟨c1, hc1, hsol, hsub, hful, hcb, hrb, hFr, hkr⟩ := hrel
    have hbx0 := (hFr.below ((Below.refl _ wr).alloc (Nat.le_refl _) (.cells (chA c1) 108))).box
    go_upto_region 3 with (first | (simp only [ch_zero]) | (with_reducible refine wpList_load_ch rfl _ rfl w.heap.size c1 rfl hcb.range ?_) | (with_reducible refine wpList_store_chn rfl _ _ rfl wr.heap.size c1 (fun _ => 0) rfl rfl rfl ?_))
    clear hbx0
    obtain ⟨sz, hsz⟩ : ∃ sz, sz = wr.heap.size := ⟨_, rfl⟩
    have hsz1 : w.heap.size + 2 ≤ sz := by rw [hsz]; exact hrb.lt
    have hF1 := hFr.below ((Below.refl _ wr).alloc (Nat.le_refl _) (.cells (chA c1) 108))
    have hcb1 := hcb.alloc (.cells (chA c1) 108)
    have hrb1 := hrb.alloc (.cells (chA c1) 108)
    have hob1 := ChAt.new wr 108 c1
    have hk1 := hkr.trans (keeps_alloc (fun i => (i = g ∧ 0 < ls.length) ∨ w.heap.size ≤ i) wr (.cells (chA c1) 108)) fun _ _ h => h
    have hws : (wr.alloc (.cells (chA c1) 108)).heap.size = sz + 1 := by rw [hsz]; simp
    have HME := Lib.hid (sizeW_eq hcb)
    rw [← hsz] at hob1 ⊢
    generalize hws1 : wr.alloc (.cells (chA c1) 108) = w1 at *
    have HW1 := Lib.hid hws1
    have HSUB := Lib.hid hsub
    have HSOL := Lib.hid hsol
    have HFUL := Lib.hid hful
    obtain ⟨wo, hwo⟩ : ∃ wo, wo = wr := ⟨_, rfl⟩
    subst hwo
    clear hcb hrb hFr hkr hsz hsol hsub hful hws1 hF0 hr0 hc0 hB0 hs0
    go_loopw [15] (fun v w2 => ∃ k : Nat, k ≤ ls.length ∧ v = .int .i64 (k : Int) ∧ ChAt w2 108 w.heap.size (foldC c1 ls k) ∧ ChAt w2 108 (w.heap.size + 1) (fun _ => 0) ∧ ChAt w2 108 sz c1 ∧ FinAt w2 fb g A cap ls ∧ Keeps (fun i => (i = g ∧ 0 < ls.length) ∨ w.heap.size ≤ i) w w2 ∧ ∀ j (h : j < ls.length), j < k → foldC c1 ls (j + 1) (ls[j]).fr ≠ 0) (fun v _ => (ls.length : Int).toNat - (intOf v).toNat)
    case atStart => exact ⟨0, Nat.zero_le _, rfl, hcb1, hrb1, hob1, hF1, hk1, fun j _ h => by omega⟩
    case round =>
      obtain ⟨k, hkl, rfl, q1, q2, q3, q4, q5, q6⟩ := hrel
      clear hcb1 hrb1 hob1 hF1 hk1 hws
      by_cases hlt2 : k < ls.length
      · obtain ⟨rfl, gl, gne, hLk, ⟨z, hz⟩, hzf⟩ := q4.at_ k hlt2
        have hm : ls[k] ∈ ls := List.getElem_mem _
        obtain ⟨l1, l2, l3, l4⟩ := hls _ hm
        have hcs := foldC_small hc1 ls k hkl
        have HST := Lib.hid (foldC_succ c1 ls hlt2)
        have hbx := q4.box
        have HQ1 := Lib.hid q1
        have HQ2 := Lib.hid q2
        have HQ3 := Lib.hid q3
        have HQ4 := Lib.hid q4
        have HQ5 := Lib.hid q5
        have HQ6 := Lib.hid q6
        have HLK := Lib.hid hLk
        have hTr : TabW wr := hT.up (q5.block 0 h00 (by omega))
        have hw0 : 0 < wr.heap.size := Nat.lt_of_lt_of_le h00 q5.size
        have HSU := Lib.hid (fun fr tt (h1 : fr < 1099511627776) (h2 : tt < 1099511627776) => (supported_any (ls[k]) fr tt g (k * 43) wr.drew hw0 (hTr.up rfl) h1 h2 l4 (hLk.up rfl) gl).mono fun e w8 h => And.intro h.1 (show Below wr.heap.size wr w8 from (Below.refl wr.heap.size wr).drew.trans h.2))
        have fr0 := hLk.fr
        have to0 := hLk.tq
        generalize hLe : ls[k] = L at *
        have HLe := Lib.hid hLe
        clear hLe
        have cf := q1.cell (i := L.fr) (by omega)
        have ct := q1.cell (i := L.tq) (by omega)
        have cff := q1.free L.fr
        have ctf := q1.free L.tq
        have k0 : (0 : Int) ≤ (k : Int) := by omega
        have k1 : (k : Int) < (ls.length : Int) := by omega
        have k3 : (k : Int) + 1 ≤ 1000 := by omega
        have k2 : ((k : Int)).toNat = k := by omega
        have f0 : (0 : Int) ≤ (L.fr : Int) := by omega
        have f1 : (L.fr : Int) < 40 := by omega
        have f2 : ((L.fr : Int)).toNat = L.fr := by omega
        have t0 : (0 : Int) ≤ (L.tq : Int) := by omega
        have t1 : (L.tq : Int) < 40 := by omega
        have t2 : ((L.tq : Int)).toNat = L.tq := by omega
        have HCS := Lib.hid hcs
        have HGC : Hid (g < w.heap.size) := Lib.hid (hF.at_ k hlt2).2.1
        clear q1 q2 q3 q4 q5 q6 hLk hTr
        generalize foldC c1 ls k = cc at *
        go_upto_region 6 with fail
        go_cut [] (fun wx => ChAt wx 108 w.heap.size (stepL cc L) ∧ ChAt wx 108 (w.heap.size + 1) (fun _ => 0) ∧ ChAt wx 108 sz c1 ∧ FinAt wx fb g (some ⟨g, 0, none⟩) cap ls ∧ Keeps (fun i => (i = g ∧ 0 < ls.length) ∨ w.heap.size ≤ i) w wx ∧ LkAt wx g (k * 43) L)
        case first =>
          have HC := Lib.hid (HSU.out (cc L.fr) (cc L.tq) (hcs _) (hcs _))
          have HFF := Lib.hid (HQ1.out.free (L.fr))
          have HW8 := Lib.hid (fun w8 (hb : Below wr.heap.size wr w8) => And.intro (HLK.out.up (hb.block g gl)).fr (And.intro (HLK.out.up (hb.block g gl)).tq (And.intro ((HQ1.out.up hb).cell (i := L.fr) (by omega)) (And.intro ((HQ1.out.up hb).free L.fr) (And.intro (((HQ1.out.up hb).set L.fr (srcS L (cc L.fr) (cc L.tq))).cell (i := L.tq) (by omega)) (((HQ1.out.up hb).set L.fr (srcS L (cc L.fr) (cc L.tq))).free L.tq))))))
          have HEND : Hid (∀ w8, Below wr.heap.size wr w8 → ∀ w9, w9 = (w8.setCell ⟨w.heap.size, L.fr, none⟩ (.int .u64 (srcS L (cc L.fr) (cc L.tq) : Int))).setCell ⟨w.heap.size, L.tq, none⟩ (.int .u64 (tgtS L (cc L.fr) (cc L.tq) : Int)) →
              ChAt w9 108 w.heap.size (stepL cc L) ∧ ChAt w9 108 (w.heap.size + 1) (fun _ => 0) ∧ ChAt w9 108 sz c1 ∧ FinAt w9 fb g (some ⟨g, 0, none⟩) cap ls ∧ Keeps (fun i => (i = g ∧ 0 < ls.length) ∨ w.heap.size ≤ i) w w9 ∧ LkAt w9 g (k * 43) L) := by
            refine Lib.hid fun w8 hb8 w9 h9 => ?_
            have hgc := HGC.out
            have oth : ∀ b, b < wr.heap.size → b ≠ w.heap.size → w9.heap[b]? = wr.heap[b]? := fun b hb hne => by
              rw [h9, heap_setCell_other _ _ _ _ (show b ≠ w.heap.size from hne), heap_setCell_other _ _ _ _ (show b ≠ w.heap.size from hne)]
              exact hb8.block b hb
            have hs9 : wr.heap.size ≤ w9.heap.size := by rw [h9]; simpa [World.setCell] using hb8.size
            refine ⟨?_, ?_, ?_, ?_, ?_, ?_⟩
            · rw [h9]; exact ((HQ1.out.up hb8).set _ _).set _ _
            · exact (oth _ HQ2.out.lt (by omega)).trans HQ2.out
            · exact (oth _ HQ3.out.lt (by omega)).trans HQ3.out
            · exact HQ4.out.up hs9 (oth _ HQ4.out.lt (by omega)) (fun _ => oth _ gl (by omega))
            · rw [h9]
              refine ((HQ5.out.trans (Keeps.of_below' (fun i => (i = g ∧ 0 < ls.length) ∨ w.heap.size ≤ i) hb8) fun _ _ h => h).trans (keeps_setCell (H := fun i => (i = g ∧ 0 < ls.length) ∨ w.heap.size ≤ i) w8 ⟨w.heap.size, L.fr, none⟩ _ (.inr (Nat.le_refl _))) fun _ _ h => h).trans (keeps_setCell (H := fun i => (i = g ∧ 0 < ls.length) ∨ w.heap.size ≤ i) _ ⟨w.heap.size, L.tq, none⟩ _ (.inr (Nat.le_refl _))) fun _ _ h => h
            · exact HLK.out.up (oth _ gl (by omega))
          clear hm l1 l2 l4 hz hzf hcs cff ctf
          generalize srcS L (cc L.fr) (cc L.tq) = S at *
          generalize tgtS L (cc L.fr) (cc L.tq) = T at *
          have hgc : g ≠ w.heap.size := fun e => by
            have h1 := HQ1.out
            rw [← e] at h1
            have h2 := h1.cell (i := 0) (by omega)
            have h3 := HGC.out
            omega
          have HSD : Hid (wr.drew.cell? ⟨g, k * 43, none⟩ = some (.int .i64 (L.fr : Int)) ∧ wr.drew.cell? ⟨g, k * 43 + 1, none⟩ = some (.int .i64 (L.tq : Int))) := Lib.hid ⟨fr0, to0⟩
          have HSS := Lib.hid (fun (u : World) (a : Nat) (x : Value) (h : u.cell? ⟨g, k * 43, none⟩ = some (.int .i64 (L.fr : Int)) ∧ u.cell? ⟨g, k * 43 + 1, none⟩ = some (.int .i64 (L.tq : Int))) => And.intro ((World.cell?_setCell_far u ⟨w.heap.size, a, none⟩ ⟨g, k * 43, none⟩ x (fun e => hgc e.symm)).trans h.1) ((World.cell?_setCell_far u ⟨w.heap.size, a, none⟩ ⟨g, k * 43 + 1, none⟩ x (fun e => hgc e.symm)).trans h.2))
          clear hgc
          rename_i J K2 hJ hK2
          refine wp_region_noPanic ?_
          refine wp_region_held_drew (S := (fun u : World => u.cell? ⟨g, k * 43, none⟩ = some (.int .i64 (L.fr : Int)) ∧ u.cell? ⟨g, k * 43 + 1, none⟩ = some (.int .i64 (L.tq : Int)))) (by kernel_rfl) HSD.out (fun hHeld => ?_)
          refine wpAnyH_take (i := 0) (v := ?_) (oper_at (r := _) rfl) (by kernel_rfl) (by kernel_rfl) (by kernel_rfl) (fun _ _ _ h => h) (Or.inl ⟨by rfl, ?_⟩) (by assumption) ?_
          rotate_left
          · intro w hSw; try dsimp only at hSw
            go_simp
            try with_reducible rfl
          try simp only [Act.put, List.setIfInBounds_toArray, List.set_cons_zero, List.set_cons_succ]
          refine wpAnyH_take (i := 1) (v := ?_) (oper_at (r := _) rfl) (by kernel_rfl) (by kernel_rfl) (by kernel_rfl) (fun _ _ _ h => h) (Or.inl ⟨by rfl, ?_⟩) (by assumption) ?_
          rotate_left
          · intro w hSw; try dsimp only at hSw
            go_simp
            try with_reducible rfl
          try simp only [Act.put, List.setIfInBounds_toArray, List.set_cons_zero, List.set_cons_succ]
          refine wpAnyH_take (i := 2) (v := ?_) (oper_at (r := _) rfl) (by kernel_rfl) (by kernel_rfl) (by kernel_rfl) (fun _ _ _ h => h) (Or.inl ⟨by rfl, ?_⟩) (by assumption) ?_
          rotate_left
          · intro w hSw; try dsimp only at hSw
            go_simp
            try with_reducible rfl
          try simp only [Act.put, List.setIfInBounds_toArray, List.set_cons_zero, List.set_cons_succ]
          refine wpAnyH_take (i := 3) (v := ?_) (oper_at (r := _) rfl) (by kernel_rfl) (by kernel_rfl) (by kernel_rfl) (fun _ _ _ h => h) (Or.inl ⟨by rfl, ?_⟩) (by assumption) ?_
          rotate_left
          · intro w hSw; try dsimp only at hSw
            go_simp
            try with_reducible rfl
          try simp only [Act.put, List.setIfInBounds_toArray, List.set_cons_zero, List.set_cons_succ]
          refine wpAnyH_take (i := 4) (v := ?_) (oper_at (r := _) rfl) (by kernel_rfl) (by kernel_rfl) (by kernel_rfl) (fun _ _ _ h => h) (Or.inl ⟨by rfl, ?_⟩) (by assumption) ?_
          rotate_left
          · intro w hSw; try dsimp only at hSw
            go_simp
            try with_reducible rfl
          try simp only [Act.put, List.setIfInBounds_toArray, List.set_cons_zero, List.set_cons_succ]
          refine wpAnyH_take (i := 5) (v := ?_) (oper_at (r := _) rfl) (by kernel_rfl) (by kernel_rfl) (by kernel_rfl) (fun _ _ _ h => h) (Or.inl ⟨by rfl, ?_⟩) (by assumption) ?_
          rotate_left
          · intro w hSw; try dsimp only at hSw
            go_simp
            try with_reducible rfl
          try simp only [Act.put, List.setIfInBounds_toArray, List.set_cons_zero, List.set_cons_succ]
          refine wpAnyH_take (i := 6) (v := ?_) (oper_at (r := _) rfl) (by kernel_rfl) (by kernel_rfl) (by kernel_rfl) (fun _ _ _ h => h) (Or.inl ⟨by rfl, ?_⟩) (by assumption) ?_
          rotate_left
          · intro w hSw; try dsimp only at hSw
            go_simp
            try with_reducible rfl
          try simp only [Act.put, List.setIfInBounds_toArray, List.set_cons_zero, List.set_cons_succ]
          refine wpAnyH_take (i := 7) (v := ?_) (oper_at (r := _) rfl) (by kernel_rfl) (by kernel_rfl) (by kernel_rfl) (fun _ _ _ h => h) (Or.inl ⟨by rfl, ?_⟩) (by assumption) ?_
          rotate_left
          · intro w hSw; try dsimp only at hSw
            go_simp
            try with_reducible rfl
          try simp only [Act.put, List.setIfInBounds_toArray, List.set_cons_zero, List.set_cons_succ]
          refine wpAnyH_take (i := 8) (v := ?_) (oper_at (r := _) rfl) (by kernel_rfl) (by kernel_rfl) (by kernel_rfl) (fun _ _ _ h => h) (Or.inl ⟨by rfl, ?_⟩) (by assumption) ?_
          rotate_left
          · intro w hSw; try dsimp only at hSw
            go_simp
            try with_reducible rfl
          try simp only [Act.put, List.setIfInBounds_toArray, List.set_cons_zero, List.set_cons_succ]
          refine wpAnyH_take (i := 9) (v := ?_) (oper_at (r := _) rfl) (by kernel_rfl) (by kernel_rfl) (by kernel_rfl) (fun _ _ _ h => h) (Or.inl ⟨by rfl, ?_⟩) (by assumption) ?_
          rotate_left
          · intro w hSw; try dsimp only at hSw
            go_simp
            try with_reducible rfl
          try simp only [Act.put, List.setIfInBounds_toArray, List.set_cons_zero, List.set_cons_succ]
          refine wpAnyH_take (i := 10) (v := ?_) (oper_at (r := _) rfl) (by kernel_rfl) (by kernel_rfl) (by kernel_rfl) (fun _ _ _ h => h) (Or.inl ⟨by rfl, ?_⟩) (by assumption) ?_
          rotate_left
          · intro w hSw; try dsimp only at hSw
            go_simp
            try with_reducible rfl
          try simp only [Act.put, List.setIfInBounds_toArray, List.set_cons_zero, List.set_cons_succ]
          refine wpAnyH_take (i := 11) (v := ?_) (oper_at (r := _) rfl) (by kernel_rfl) (by kernel_rfl) (by kernel_rfl) (fun _ _ _ h => h) (Or.inl ⟨by rfl, ?_⟩) (by assumption) ?_
          rotate_left
          · intro w hSw; try dsimp only at hSw
            go_simp
            try with_reducible rfl
          try simp only [Act.put, List.setIfInBounds_toArray, List.set_cons_zero, List.set_cons_succ]
          refine wpAnyH_take (i := 12) (v := ?_) (oper_at (r := _) rfl) (by kernel_rfl) (by kernel_rfl) (by kernel_rfl) (fun _ _ _ h => h) (Or.inl ⟨by rfl, ?_⟩) (by assumption) ?_
          rotate_left
          · intro w hSw; try dsimp only at hSw
            go_simp
            try with_reducible rfl
          try simp only [Act.put, List.setIfInBounds_toArray, List.set_cons_zero, List.set_cons_succ]
          refine wpAnyH_take (i := 13) (v := ?_) (oper_at (r := _) rfl) (by kernel_rfl) (by kernel_rfl) (by kernel_rfl) (fun _ _ _ h => h) (Or.inl ⟨by rfl, ?_⟩) (by assumption) ?_
          rotate_left
          · intro w hSw; try dsimp only at hSw
            go_simp
            try with_reducible rfl
          try simp only [Act.put, List.setIfInBounds_toArray, List.set_cons_zero, List.set_cons_succ]
          refine wpAnyH_take (i := 15) (v := ?_) (oper_at (r := _) rfl) (by kernel_rfl) (by kernel_rfl) (by kernel_rfl) (fun _ _ _ h => h) (Or.inl ⟨by rfl, ?_⟩) (by assumption) ?_
          rotate_left
          · intro w hSw; try dsimp only at hSw
            go_simp
            try with_reducible rfl
          try simp only [Act.put, List.setIfInBounds_toArray, List.set_cons_zero, List.set_cons_succ]
          refine wpAnyH_take (i := 16) (v := ?_) (oper_at (r := _) rfl) (by kernel_rfl) (by kernel_rfl) (by kernel_rfl) (fun _ _ _ h => h) (Or.inl ⟨by rfl, ?_⟩) (by assumption) ?_
          rotate_left
          · intro w hSw; try dsimp only at hSw
            go_simp
            try with_reducible rfl
          try simp only [Act.put, List.setIfInBounds_toArray, List.set_cons_zero, List.set_cons_succ]
          refine wpAnyH_take (i := 17) (v := ?_) (oper_at (r := _) rfl) (by kernel_rfl) (by kernel_rfl) (by kernel_rfl) (fun _ _ _ h => h) (Or.inl ⟨by rfl, ?_⟩) (by assumption) ?_
          rotate_left
          · intro w hSw; try dsimp only at hSw
            go_simp
            try with_reducible rfl
          try simp only [Act.put, List.setIfInBounds_toArray, List.set_cons_zero, List.set_cons_succ]
          refine wpAnyH_take (i := 18) (v := ?_) (oper_at (r := _) rfl) (by kernel_rfl) (by kernel_rfl) (by kernel_rfl) (fun _ _ _ h => h) (Or.inl ⟨by rfl, ?_⟩) (by assumption) ?_
          rotate_left
          · intro w hSw; try dsimp only at hSw
            go_simp
            try with_reducible rfl
          try simp only [Act.put, List.setIfInBounds_toArray, List.set_cons_zero, List.set_cons_succ]
          refine wpAnyH_take (i := 19) (v := ?_) (oper_at (r := _) rfl) (by kernel_rfl) (by kernel_rfl) (by kernel_rfl) (fun _ _ _ h => h) (Or.inl ⟨by rfl, ?_⟩) (by assumption) ?_
          rotate_left
          · intro w hSw; try dsimp only at hSw
            go_simp
            try with_reducible rfl
          try simp only [Act.put, List.setIfInBounds_toArray, List.set_cons_zero, List.set_cons_succ]
          refine wpAnyH_ready (rs := [14, 20]) (by kernel_rfl) (by simp) ?_
          refine (AllReadyH.cons (oper_at (r := _) rfl) (fun K hK => ?_) (AllReadyH.cons (oper_at (r := _) rfl) (fun K hK => ?_) AllReadyH.nil))
          · go_simp
            refine hK.out _ _ (by first | assumption | exact HSD.out | exact And.intro v5 v6 | exact HSS.out _ _ _ (by assumption)) (fun _ => ?_)
            clear hK K
            try simp only [Act.put, List.setIfInBounds_toArray, List.set_cons_zero, List.set_cons_succ]
            refine wpAnyH_ready (rs := [20]) (by kernel_rfl) (by simp) ?_
            refine (AllReadyH.cons (oper_at (r := _) rfl) (fun K hK => ?_) AllReadyH.nil)
            · go_simp
              refine hK.out _ _ (by first | assumption | exact HSD.out | exact And.intro v5 v6 | exact HSS.out _ _ _ (by assumption)) (fun _ => ?_)
              clear hK K
              try simp only [Act.put, List.setIfInBounds_toArray, List.set_cons_zero, List.set_cons_succ]
              refine wpAnyH_ready (rs := [21]) (by kernel_rfl) (by simp) ?_
              refine AllReadyH.cons (oper_at (r := _) rfl) (fun K hK => ?_) AllReadyH.nil
              go_simp
              (with_reducible refine HC.out.mono ?_); rintro e w8 ⟨rfl, hb8⟩; have HB8 := Lib.hid hb8; clear hb8; obtain ⟨v5, v6, v1, v2, v3, v4⟩ := HW8.out w8 HB8.out
              go_wp2_with fail
              refine hK.out _ _ (by first | assumption | exact HSD.out | exact And.intro v5 v6 | exact HSS.out _ _ _ (by assumption)) (fun _ => ?_)
              clear hK K
              try simp only [Act.put, List.setIfInBounds_toArray, List.set_cons_zero, List.set_cons_succ]
              refine wpAnyH_take (i := 22) (v := ?_) (oper_at (r := _) rfl) (by kernel_rfl) (by kernel_rfl) (by kernel_rfl) (fun _ _ _ h => h) (Or.inl ⟨by rfl, ?_⟩) (by assumption) ?_
              rotate_left
              · intro w hSw; try dsimp only at hSw
                go_simp
                try with_reducible rfl
              try simp only [Act.put, List.setIfInBounds_toArray, List.set_cons_zero, List.set_cons_succ]
              refine wpAnyH_take (i := 23) (v := ?_) (oper_at (r := _) rfl) (by kernel_rfl) (by kernel_rfl) (by kernel_rfl) (fun _ _ _ h => h) (Or.inl ⟨by rfl, ?_⟩) (by assumption) ?_
              rotate_left
              · intro w hSw; try dsimp only at hSw
                go_simp
                try with_reducible rfl
              try simp only [Act.put, List.setIfInBounds_toArray, List.set_cons_zero, List.set_cons_succ]
              refine wpAnyH_take (i := 24) (v := ?_) (oper_at (r := _) rfl) (by kernel_rfl) (by kernel_rfl) (by kernel_rfl) (fun _ _ _ h => h) (Or.inl ⟨by rfl, ?_⟩) (by assumption) ?_
              rotate_left
              · intro w hSw; try dsimp only at hSw
                go_simp
                try with_reducible rfl
              try simp only [Act.put, List.setIfInBounds_toArray, List.set_cons_zero, List.set_cons_succ]
              refine wpAnyH_take (i := 25) (v := ?_) (oper_at (r := _) rfl) (by kernel_rfl) (by kernel_rfl) (by kernel_rfl) (fun _ _ _ h => h) (Or.inl ⟨by rfl, ?_⟩) (by assumption) ?_
              rotate_left
              · intro w hSw; try dsimp only at hSw
                go_simp
                try with_reducible rfl
              try simp only [Act.put, List.setIfInBounds_toArray, List.set_cons_zero, List.set_cons_succ]
              refine wpAnyH_ready (rs := [26]) (by kernel_rfl) (by simp) ?_
              refine AllReadyH.cons (oper_at (r := _) rfl) (fun K hK => ?_) AllReadyH.nil
              go_simp
              refine hK.out _ _ (by first | assumption | exact HSD.out | exact And.intro v5 v6 | exact HSS.out _ _ _ (by assumption)) (fun _ => ?_)
              clear hK K
              try simp only [Act.put, List.setIfInBounds_toArray, List.set_cons_zero, List.set_cons_succ]
              refine wpAnyH_take (i := 27) (v := ?_) (oper_at (r := _) rfl) (by kernel_rfl) (by kernel_rfl) (by kernel_rfl) (fun _ _ _ h => h) (Or.inl ⟨by rfl, ?_⟩) (by assumption) ?_
              rotate_left
              · intro w hSw; try dsimp only at hSw
                go_simp
                try with_reducible rfl
              try simp only [Act.put, List.setIfInBounds_toArray, List.set_cons_zero, List.set_cons_succ]
              refine wpAnyH_ready (rs := [28]) (by kernel_rfl) (by simp) ?_
              refine AllReadyH.cons (oper_at (r := _) rfl) (fun K hK => ?_) AllReadyH.nil
              go_simp
              refine hK.out _ _ (by first | assumption | exact HSD.out | exact And.intro v5 v6 | exact HSS.out _ _ _ (by assumption)) (fun _ => ?_)
              clear hK K
              try simp only [Act.put, List.setIfInBounds_toArray, List.set_cons_zero, List.set_cons_succ]
              refine wpAnyH_done (by kernel_rfl) ?_ _
              refine NoPanic.normal ?_
              refine hK2 _ _ (Met.intro (hJ _ _ ?_)); (repeat apply Exists.intro); exact ⟨HEND.out _ HB8.out _ rfl, rfl⟩
          · go_simp
            refine hK.out _ _ (by first | assumption | exact HSD.out | exact And.intro v5 v6 | exact HSS.out _ _ _ (by assumption)) (fun _ => ?_)
            clear hK K
            try simp only [Act.put, List.setIfInBounds_toArray, List.set_cons_zero, List.set_cons_succ]
            refine wpAnyH_ready (rs := [14]) (by kernel_rfl) (by simp) ?_
            refine (AllReadyH.cons (oper_at (r := _) rfl) (fun K hK => ?_) AllReadyH.nil)
            · go_simp
              refine hK.out _ _ (by first | assumption | exact HSD.out | exact And.intro v5 v6 | exact HSS.out _ _ _ (by assumption)) (fun _ => ?_)
              clear hK K
              try simp only [Act.put, List.setIfInBounds_toArray, List.set_cons_zero, List.set_cons_succ]
              refine wpAnyH_ready (rs := [21]) (by kernel_rfl) (by simp) ?_
              refine AllReadyH.cons (oper_at (r := _) rfl) (fun K hK => ?_) AllReadyH.nil
              go_simp
              (with_reducible refine HC.out.mono ?_); rintro e w8 ⟨rfl, hb8⟩; have HB8 := Lib.hid hb8; clear hb8; obtain ⟨v5, v6, v1, v2, v3, v4⟩ := HW8.out w8 HB8.out
              go_wp2_with fail
              refine hK.out _ _ (by first | assumption | exact HSD.out | exact And.intro v5 v6 | exact HSS.out _ _ _ (by assumption)) (fun _ => ?_)
              clear hK K
              try simp only [Act.put, List.setIfInBounds_toArray, List.set_cons_zero, List.set_cons_succ]
              refine wpAnyH_take (i := 22) (v := ?_) (oper_at (r := _) rfl) (by kernel_rfl) (by kernel_rfl) (by kernel_rfl) (fun _ _ _ h => h) (Or.inl ⟨by rfl, ?_⟩) (by assumption) ?_
              rotate_left
              · intro w hSw; try dsimp only at hSw
                go_simp
                try with_reducible rfl
              try simp only [Act.put, List.setIfInBounds_toArray, List.set_cons_zero, List.set_cons_succ]
              refine wpAnyH_take (i := 23) (v := ?_) (oper_at (r := _) rfl) (by kernel_rfl) (by kernel_rfl) (by kernel_rfl) (fun _ _ _ h => h) (Or.inl ⟨by rfl, ?_⟩) (by assumption) ?_
              rotate_left
              · intro w hSw; try dsimp only at hSw
                go_simp
                try with_reducible rfl
              try simp only [Act.put, List.setIfInBounds_toArray, List.set_cons_zero, List.set_cons_succ]
              refine wpAnyH_take (i := 24) (v := ?_) (oper_at (r := _) rfl) (by kernel_rfl) (by kernel_rfl) (by kernel_rfl) (fun _ _ _ h => h) (Or.inl ⟨by rfl, ?_⟩) (by assumption) ?_
              rotate_left
              · intro w hSw; try dsimp only at hSw
                go_simp
                try with_reducible rfl
              try simp only [Act.put, List.setIfInBounds_toArray, List.set_cons_zero, List.set_cons_succ]
              refine wpAnyH_take (i := 25) (v := ?_) (oper_at (r := _) rfl) (by kernel_rfl) (by kernel_rfl) (by kernel_rfl) (fun _ _ _ h => h) (Or.inl ⟨by rfl, ?_⟩) (by assumption) ?_
              rotate_left
              · intro w hSw; try dsimp only at hSw
                go_simp
                try with_reducible rfl
              try simp only [Act.put, List.setIfInBounds_toArray, List.set_cons_zero, List.set_cons_succ]
              refine wpAnyH_ready (rs := [26]) (by kernel_rfl) (by simp) ?_
              refine AllReadyH.cons (oper_at (r := _) rfl) (fun K hK => ?_) AllReadyH.nil
              go_simp
              refine hK.out _ _ (by first | assumption | exact HSD.out | exact And.intro v5 v6 | exact HSS.out _ _ _ (by assumption)) (fun _ => ?_)
              clear hK K
              try simp only [Act.put, List.setIfInBounds_toArray, List.set_cons_zero, List.set_cons_succ]
              refine wpAnyH_take (i := 27) (v := ?_) (oper_at (r := _) rfl) (by kernel_rfl) (by kernel_rfl) (by kernel_rfl) (fun _ _ _ h => h) (Or.inl ⟨by rfl, ?_⟩) (by assumption) ?_
              rotate_left
              · intro w hSw; try dsimp only at hSw
                go_simp
                try with_reducible rfl
              try simp only [Act.put, List.setIfInBounds_toArray, List.set_cons_zero, List.set_cons_succ]
              refine wpAnyH_ready (rs := [28]) (by kernel_rfl) (by simp) ?_
              refine AllReadyH.cons (oper_at (r := _) rfl) (fun K hK => ?_) AllReadyH.nil
              go_simp
              refine hK.out _ _ (by first | assumption | exact HSD.out | exact And.intro v5 v6 | exact HSS.out _ _ _ (by assumption)) (fun _ => ?_)
              clear hK K
              try simp only [Act.put, List.setIfInBounds_toArray, List.set_cons_zero, List.set_cons_succ]
              refine wpAnyH_done (by kernel_rfl) ?_ _
              refine NoPanic.normal ?_
              refine hK2 _ _ (Met.intro (hJ _ _ ?_)); (repeat apply Exists.intro); exact ⟨HEND.out _ HB8.out _ rfl, rfl⟩
        case rest =>
          obtain ⟨r1, r2, r3, r4, r5, r6⟩ := hcut
          obtain ⟨_, gl4, _, _, ⟨z4, hz4⟩, hzf4⟩ := r4.at_ k hlt2
          have e0 := r6.fr
          have e1 := r1.cell (i := L.fr) (by omega)
          have HR1 := Lib.hid r1
          have HR2 := Lib.hid r2
          have HR3 := Lib.hid r3
          have HR4 := Lib.hid r4
          have HR5 := Lib.hid r5
          clear r1 r2 r3 r4 r5 r6 hz hzf fr0 to0 cff ctf cf ct hbx
          by_cases hzero : stepL cc L L.fr = 0
          · rw [hzero] at e1
            have HZ := Lib.hid hzero
            clear hzero
            have tz : ((0 : Int) == 0) = true := rfl
            go_upto_region 9 with fail
            have hgc := HGC.out
            have HQr := Lib.hid (HR2.out.other (p := ⟨g, k * 43 + 42, none⟩) (show w.heap.size + 1 ≠ g by omega) (.int .i64 (wrap64 (z4 + 1))))
            have HE : Hid (Keeps (fun i => i = g ∧ 0 < ls.length) w ((wc.setCell ⟨g, k * 43 + 42, none⟩ (.int .i64 (wrap64 (z4 + 1)))).setRow (w.heap.size + 1) (chA fun _ => 0)) ∧ FinAt ((wc.setCell ⟨g, k * 43 + 42, none⟩ (.int .i64 (wrap64 (z4 + 1)))).setRow (w.heap.size + 1) (chA fun _ => 0)) fb g (some ⟨g, 0, none⟩) cap ls) := by
              refine Lib.hid ⟨?_, ?_⟩
              · refine (((HR5.out.trans (keeps_setCell (H := fun i => (i = g ∧ 0 < ls.length) ∨ w.heap.size ≤ i) wc ⟨g, k * 43 + 42, none⟩ _ (.inl ⟨rfl, Nat.lt_of_le_of_lt (Nat.zero_le _) hlt2⟩)) fun _ _ h => h).trans (keeps_setRow (H := fun i => (i = g ∧ 0 < ls.length) ∨ w.heap.size ≤ i) _ (w.heap.size + 1) _ (.inr (by omega))) fun _ _ h => h)).mono fun i hi h => ?_
                rcases h with h | h
                · exact h
                · omega
              · exact (HR4.out.blame k hlt2 _).up (by simp [World.setRow]) (setRow_other _ (by have := HR4.out.lt; omega)) (fun _ => setRow_other _ (by omega))
            have HN : Hid (∀ l, ¬ Sol n ls c l) := Lib.hid fun l h => foldC_none hls hc1 hlt2 (by rw [HST.out, HLe.out]; exact HZ.out) l ((HSOL.out l).1 h)
            have HRg := Lib.hid (HQr.out.setRow (fun _ => 0)).range
            go_wp2_with (first | (simp only [ch_zero]) | (with_reducible refine wpList_store_ch rfl _ _ rfl (w.heap.size + 1) (fun _ => 0) (fun _ => 0) rfl rfl HQr.out ?_))
            refine bodyPost_ret (results_cb rfl _ _ (w.heap.size + 1) (fun _ => 0) false rfl rfl HRg.out) rfl ?_
            exact ⟨_, false, rfl, HE.out.1, HE.out.2, fun i => (by decide : (0 : Nat) < 1099511627776), (fun h => by cases h), fun _ => HN.out⟩
          · have tz : (((stepL cc L L.fr : Nat) : Int) == 0) = false := by simp; exact hzero
            have HXX := Lib.hid hzero
            clear hzero
            have HK1 := Lib.hid (show k + 1 ≤ ls.length from hlt2)
            have HM : Hid ((ls.length : Int).toNat - ((k : Int) + 1).toNat < (ls.length : Int).toNat - ((k : Int)).toNat) := Lib.hid (by omega)
            generalize hxe : stepL cc L L.fr = x at *
            have HXE := Lib.hid hxe
            clear hxe
            go_wp2_with fail
            go_roundw
            case rel =>
              refine ⟨k + 1, HK1.out, by go_num, by rw [HST.out]; exact HR1.out, HR2.out, HR3.out, HR4.out, HR5.out, fun j hj hjk => ?_⟩
              by_cases e : j = k
              · subst e; rw [HST.out, HLe.out, HXE.out]; exact HXX.out
              · exact HQ6.out j hj (by omega)
            case measure => exact HM.out
      · obtain rfl : k = ls.length := by omega
        have hbx := q4.box
        go_upto_region 11 with fail
        have HQ1 := Lib.hid q1
        have HQ2 := Lib.hid q2
        have HQ3 := Lib.hid q3
        have HQ4 := Lib.hid q4
        have HQ5 := Lib.hid q5
        have HQ6 := Lib.hid q6
        have HS2 := Lib.hid (foldC_small hc1 ls ls.length (Nat.le_refl _))
        have HSO2 := Lib.hid (fun l => (HSOL.out l).trans (foldC_sol hls hc1 l ls.length (Nat.le_refl _)))
        have HSB2 := Lib.hid ((foldC_sub hc1 ls (j := 0) ls.length (Nat.zero_le _) (Nat.le_refl _)))
        have HFU2 := Lib.hid (fun i (h : c i ≠ 0) => foldC_full hls hc1 i (HFUL.out i h) ls.length (Nat.le_refl _) (fun j hj _ => HQ6.out j hj hj))
        have HSTA := Lib.hid (fun (h : eqC (foldC c1 ls ls.length) c1 = true) => foldC_stable hls hn hc1 ((eqC_iff _ _).1 h) (fun j hj => HQ6.out j hj hj))
        have HEQ := Lib.hid (fun (h : eqC (foldC c1 ls ls.length) c1 = true) => funext (f := foldC c1 ls ls.length) (g := c1) fun i => (Nat.lt_or_ge i 40).elim ((eqC_iff _ _).1 h i) (fun hi => foldC_high hls hn c1 i hi _ (Nat.le_refl _)))
        have HNE := Lib.hid (fun (h : eqC (foldC c1 ls ls.length) c1 = false) => show ∃ i, i < 40 ∧ foldC c1 ls ls.length i ≠ c1 i from Classical.byContradiction fun hn => by
          have : eqC (foldC c1 ls ls.length) c1 = true := (eqC_iff _ _).2 fun i hi => Classical.byContradiction fun hne => hn ⟨i, hi, hne⟩
          rw [h] at this
          cases this)
        rw [foldC_zero] at HSB2
        clear q4 q5 q6
        generalize foldC c1 ls ls.length = c2 at *
        cases heq : eqC c2 c1
        · have HBE := Lib.hid heq
          have HM : Hid (sizeW wr w.heap.size < sizeW wo w.heap.size) := by
            obtain ⟨i, hi, hne⟩ := HNE.out heq
            refine Lib.hid ?_
            rw [HME.out, sizeW_eq HQ1.out]
            exact size_lt HSB2.out hi hne
          clear heq
          go_wp2_with (first | (with_reducible refine wpList_load_ch rfl _ rfl w.heap.size c2 rfl q1.range ?_) | (with_reducible refine wpList_load_ch rfl _ rfl sz c1 rfl q3.range ?_) | (with_reducible refine wpList_eq_ch rfl _ _ _ rfl c2 c1 rfl rfl false HBE.out ?_))
          go_roundw
          case rel =>
            (repeat apply Exists.intro)
            exact ⟨⟨c2, HS2.out, HSO2.out, HSB2.out.trans HSUB.out, HFU2.out, HQ1.out, HQ2.out, HQ4.out, HQ5.out⟩, rfl⟩
          case measure => exact HM.out
        · have e2 := HEQ.out heq
          have HBE := Lib.hid heq
          have HSTB := Lib.hid (HSTA.out heq)
          have HE : Hid (Keeps (fun i => i = g ∧ 0 < ls.length) w (wr.setRow (w.heap.size + 1) (chA c2)) ∧ FinAt (wr.setRow (w.heap.size + 1) (chA c2)) fb g A cap ls) := by
            refine Lib.hid ⟨?_, ?_⟩
            · refine ((HQ5.out.trans (keeps_setRow (H := fun i => (i = g ∧ 0 < ls.length) ∨ w.heap.size ≤ i) wr (w.heap.size + 1) _ (.inr (by omega))) fun _ _ h => h)).mono fun i hi h => ?_
              rcases h with h | h
              · exact h
              · omega
            · exact HQ4.out.up (by simp [World.setRow]) (setRow_other _ (by have := hF.lt; omega)) (fun h => setRow_other _ (by have := (hF.at_ 0 h).2.1; omega))
          have HRg := Lib.hid (HQ2.out.setRow c2).range
          have HE2 := Lib.hid e2
          clear heq e2
          go_upto_region 12 with (first | (with_reducible refine wpList_load_ch rfl _ rfl w.heap.size c2 rfl q1.range ?_) | (with_reducible refine wpList_load_ch rfl _ rfl sz c1 rfl q3.range ?_) | (with_reducible refine wpList_eq_ch rfl _ _ _ rfl c2 c1 rfl rfl true HBE.out ?_))
          go_wp2_with (first | (with_reducible refine wpList_load_ch rfl _ rfl w.heap.size c2 rfl q1.range ?_) | (with_reducible refine wpList_store_ch rfl _ _ rfl (w.heap.size + 1) c2 (fun _ => 0) rfl rfl q2 ?_))
          refine bodyPost_ret (results_cb rfl _ _ (w.heap.size + 1) c2 true rfl rfl HRg.out) rfl ?_
          exact ⟨_, true, rfl, HE.out.1, HE.out.2, HS2.out, fun _ => ⟨HSO2.out, by rw [HE2.out]; exact HSTB.out, HSB2.out.trans HSUB.out, HFU2.out⟩, fun h => by cases h⟩

end Go.Proofs.YtaeelanbkdkppaaDoor

/-
  The program's choice of the hardest node.
-/
namespace Go.Proofs.YtaeelanbkdkppaaDoor
open Go.RowKit

def blL (B : Nat → Int) : List Value := (List.range 40).map fun k => .int .i64 (B k)
def blA (B : Nat → Int) : Array Value := (blL B).toArray
theorem bl_zero : #[Value.int IntKind.i64 0, Value.int IntKind.i64 0, Value.int IntKind.i64 0, Value.int IntKind.i64 0, Value.int IntKind.i64 0, Value.int IntKind.i64 0, Value.int IntKind.i64 0, Value.int IntKind.i64 0, Value.int IntKind.i64 0, Value.int IntKind.i64 0, Value.int IntKind.i64 0, Value.int IntKind.i64 0, Value.int IntKind.i64 0, Value.int IntKind.i64 0, Value.int IntKind.i64 0, Value.int IntKind.i64 0, Value.int IntKind.i64 0, Value.int IntKind.i64 0, Value.int IntKind.i64 0, Value.int IntKind.i64 0, Value.int IntKind.i64 0, Value.int IntKind.i64 0, Value.int IntKind.i64 0, Value.int IntKind.i64 0, Value.int IntKind.i64 0, Value.int IntKind.i64 0, Value.int IntKind.i64 0, Value.int IntKind.i64 0, Value.int IntKind.i64 0, Value.int IntKind.i64 0, Value.int IntKind.i64 0, Value.int IntKind.i64 0, Value.int IntKind.i64 0, Value.int IntKind.i64 0, Value.int IntKind.i64 0, Value.int IntKind.i64 0, Value.int IntKind.i64 0, Value.int IntKind.i64 0, Value.int IntKind.i64 0, Value.int IntKind.i64 0] = blA fun _ => 0 := by kernel_rfl
theorem blL_length (B : Nat → Int) : (blL B).length = 40 := by simp [blL]
theorem blA_get (B : Nat → Int) {i : Nat} (hi : i < 40) : (blA B)[i]? = some (.int .i64 (B i)) := by
  unfold blA blL
  rw [List.getElem?_toArray, List.getElem?_map, List.getElem?_range hi]
  rfl
def updI (B : Nat → Int) (i : Nat) (x : Int) : Nat → Int := fun k => if k = i then x else B k
theorem blA_set (B : Nat → Int) {i : Nat} (x : Int) : (blA B).setIfInBounds i (.int .i64 x) = blA (updI B i x) := by
  unfold blA
  rw [List.setIfInBounds_toArray]
  congr 1
  apply List.ext_getElem?
  intro k
  by_cases hk : k < 40
  · rw [List.getElem?_set]
    unfold blL
    rw [List.length_map, List.length_range, List.getElem?_map, List.getElem?_map, List.getElem?_range hk]
    simp only [Option.map_some, updI]
    by_cases e : i = k
    · rw [if_pos e, if_pos (by omega), if_pos e.symm]
    · rw [if_neg e, if_neg (fun h => e h.symm)]
  · rw [List.getElem?_eq_none (by rw [List.length_set, blL_length]; omega), List.getElem?_eq_none (by rw [blL_length]; omega)]
def BlAt (w : World) (g : Nat) (B : Nat → Int) : Prop := w.heap[g]? = some (.cells (blA B) 158 (0, 0))
theorem BlAt.cell {w : World} {g : Nat} {B : Nat → Int} (h : BlAt w g B) {i : Nat} (hi : i < 40) : w.cell? ⟨g, i, none⟩ = some (.int .i64 (B i)) := by
  rw [cell_of_row _ _ _ _ _ _ h, blA_get B hi]
theorem BlAt.free {w : World} {g : Nat} {B : Nat → Int} (h : BlAt w g B) (i : Nat) : w.frozen? ⟨g, i, none⟩ = false := frozen_of_row _ _ _ _ _ h
theorem BlAt.lt {w : World} {g : Nat} {B : Nat → Int} (h : BlAt w g B) : g < w.heap.size := (Array.getElem?_eq_some_iff.1 h).1
theorem BlAt.set {w : World} {g : Nat} {B : Nat → Int} (h : BlAt w g B) (i : Nat) (x : Int) : BlAt (w.setCell ⟨g, i, none⟩ (.int .i64 x)) g (updI B i x) := by
  unfold BlAt
  rw [heap_setCell_same _ _ _ _ _ _ h, blA_set B]

/-- what hardest answers -/
def HarEnd (n : Nat) (c : Choices) (w : World) (e : Ending) (w' : World) : Prop :=
  Below w.heap.size w w' ∧ (e = .returned (.int .i64 (-1)) ∨ ∃ i : Nat, i < n ∧ openB (c i) = true ∧ e = .returned (.int .i64 (i : Int)))

set_option maxRecDepth 100000 in
set_option maxHeartbeats 2000000 in
theorem hardest_any (n : Nat) (hn : n ≤ 40) (ls : List Lk) (hls : LsOk n ls) (hll : ls.length ≤ 1000) (c : Choices) (hc : Small c) (fb g : Nat) (A : Option Addr) (cap : Nat) (w : World) (hF : FinAt w fb g A cap ls) :
    Calls Tryd.prog 113 #[.pointer (some ⟨fb, 0, none⟩), .agg (chA c)] w (HarEnd n c w) := by
  go_enter Tryd.func113, Tryd.ntmps113
  go_upto_region 2 with (simp only [bl_zero])
  generalize hW0 : (w.alloc _).alloc _ = W0
  have hB0 : Below w.heap.size w W0 := by
    rw [← hW0]
    exact ((Below.refl _ _).alloc (Nat.le_refl _) _).alloc (by simp) _
  have hc0 : ChAt W0 108 w.heap.size c := by
    rw [← hW0]; exact (ChAt.new w _ c).alloc _
  have hb0 : BlAt W0 (w.heap.size + 1) (fun _ => 0) := by
    rw [← hW0]
    have := heap_alloc_new (w.alloc (.cells (chA c) 108)) (.cells (blA fun _ => 0) 158 (0, 0))
    rwa [World.size_alloc] at this
  have hlt := hF.lt
  have hbx := (hF.below hB0).box
  clear hW0
  have hl0 : (ls.length : Int) ≤ 1000 := by omega
  have HC0 := Lib.hid hc0
  have HB0 := Lib.hid hB0
  have HF := Lib.hid hF
  clear hc0 hB0 hF
  go_upto_region 3 with fail
  go_loopw [16] (fun v wr => ∃ (k : Nat) (B : Nat → Int), k ≤ ls.length ∧ v = .int .i64 (k : Int) ∧ BlAt wr (w.heap.size + 1) B ∧ Keeps (fun b => b = w.heap.size + 1) W0 wr ∧ ∀ i, B i ≠ 0 → i < n ∧ openB (c i) = true) (fun v _ => (ls.length : Int).toNat - (intOf v).toNat)
  case atStart => exact ⟨0, _, Nat.zero_le _, rfl, hb0, Keeps.refl _ _, fun i h => absurd rfl h⟩
  case round =>
    obtain ⟨k, B, hk, rfl, q1, q2, q3⟩ := hrel
    have q4 : FinAt wr fb g A cap ls := (HF.out.below HB0.out).up q2.size (q2.block _ (Nat.lt_of_lt_of_le hlt HB0.out.size) (by omega)) (fun h => q2.block _ (Nat.lt_of_lt_of_le (HF.out.at_ 0 h).2.1 HB0.out.size) (by have := (HF.out.at_ 0 h).2.1; omega))
    have qc : ChAt wr 108 w.heap.size c := (q2.block _ HC0.out.lt (by omega)).trans HC0.out
    by_cases hlt2 : k < ls.length
    · obtain ⟨rfl, gl, gne, hLk, ⟨z, hz⟩, hzf⟩ := q4.at_ k hlt2
      have hm : ls[k] ∈ ls := List.getElem_mem _
      obtain ⟨l1, l2, l3, l4⟩ := hls _ hm
      have hbx2 := q4.box
      have HQ1 := Lib.hid q1
      have HQ2 := Lib.hid q2
      have HQ3 := Lib.hid q3
      have HG : Hid (g < w.heap.size) := Lib.hid (HF.out.at_ k hlt2).2.1
      have HLK := Lib.hid hLk
      have fr0 := hLk.fr
      have to0 := hLk.tq
      clear q4
      generalize ls[k] = L at *
      have HOF := Lib.hid (isOpen_any (c L.fr) (by have := hc L.fr; omega) wr)
      have HOT := Lib.hid (isOpen_any (c L.tq) (by have := hc L.tq; omega) wr)
      have cf := qc.cell (i := L.fr) (by omega)
      have ct := qc.cell (i := L.tq) (by omega)
      have k0 : (0 : Int) ≤ (k : Int) := by omega
      have k1 : (k : Int) < (ls.length : Int) := by omega
      have k2 : ((k : Int)).toNat = k := by omega
      have k3 : (k : Int) + 1 ≤ 1000 := by omega
      have f0 : (0 : Int) ≤ (L.fr : Int) := by omega
      have f1 : (L.fr : Int) < 40 := by omega
      have f2 : ((L.fr : Int)).toNat = L.fr := by omega
      have t0 : (0 : Int) ≤ (L.tq : Int) := by omega
      have t1 : (L.tq : Int) < 40 := by omega
      have t2 : ((L.tq : Int)).toNat = L.tq := by omega
      have HQC := Lib.hid qc
      have HHL := Lib.hid hlt2
      clear hm l3 l4 hLk qc q2 hlt hlt2
      have HSKIP : Hid (BlAt wr (w.heap.size + 1) B ∧ Keeps (fun b => b = w.heap.size + 1) W0 wr ∧ ∀ i, B i ≠ 0 → i < n ∧ openB (c i) = true) := Lib.hid ⟨HQ1.out, HQ2.out, HQ3.out⟩
      have HM : Hid ((ls.length : Int).toNat - ((k : Int) + 1).toNat < (ls.length : Int).toNat - ((k : Int)).toNat) := Lib.hid (by have := HHL.out; omega)
      clear q1 q3
      cases ho1 : openB (c L.fr)
      · rw [ho1] at HOF
        go_wp2_with (go_at_call 97; refine HOF.out.mono ?_; rintro e w' ⟨rfl, rfl⟩)
        go_roundw
        case rel => exact ⟨k + 1, B, HHL.out, by go_num, HSKIP.out⟩
        case measure => exact HM.out
      · rw [ho1] at HOF
        cases ho2 : openB (c L.tq)
        · rw [ho2] at HOT
          go_wp2_with (go_at_call 97; first | (refine HOF.out.mono ?_; rintro e w' ⟨rfl, rfl⟩) | (refine HOT.out.mono ?_; rintro e w' ⟨rfl, rfl⟩))
          go_roundw
          case rel => exact ⟨k + 1, B, HHL.out, by go_num, HSKIP.out⟩
          case measure => exact HM.out
        · rw [ho2] at HOT
          have HO1 := Lib.hid ho1
          have HO2 := Lib.hid ho2
          clear ho1 ho2
          have HL1 := Lib.hid l1
          have HL2 := Lib.hid l2
          go_upto_region 7 with (go_at_call 97; first | (refine HOF.out.mono ?_; rintro e w' ⟨rfl, rfl⟩) | (refine HOT.out.mono ?_; rintro e w' ⟨rfl, rfl⟩))
          have hgb : g ≠ w.heap.size + 1 := by have := HG.out; omega
          have HSSfr := Lib.hid (fun (u : World) (a : Nat) (x : Value) (h : u.cell? ⟨g, k * 43, none⟩ = some (.int .i64 (L.fr : Int)) ∧ u.cell? ⟨g, k * 43 + 42, none⟩ = some (.int .i64 z)) => And.intro ((World.cell?_setCell_far u ⟨w.heap.size + 1, a, none⟩ ⟨g, k * 43, none⟩ x (fun e => hgb e.symm)).trans h.1) ((World.cell?_setCell_far u ⟨w.heap.size + 1, a, none⟩ ⟨g, k * 43 + 42, none⟩ x (fun e => hgb e.symm)).trans h.2))
          have HSSto := Lib.hid (fun (u : World) (a : Nat) (x : Value) (h : u.cell? ⟨g, k * 43 + 1, none⟩ = some (.int .i64 (L.tq : Int)) ∧ u.cell? ⟨g, k * 43 + 42, none⟩ = some (.int .i64 z)) => And.intro ((World.cell?_setCell_far u ⟨w.heap.size + 1, a, none⟩ ⟨g, k * 43 + 1, none⟩ x (fun e => hgb e.symm)).trans h.1) ((World.cell?_setCell_far u ⟨w.heap.size + 1, a, none⟩ ⟨g, k * 43 + 42, none⟩ x (fun e => hgb e.symm)).trans h.2))
          have HSfr : Hid (wr.drew.cell? ⟨g, k * 43, none⟩ = some (.int .i64 (L.fr : Int)) ∧ wr.drew.cell? ⟨g, k * 43 + 42, none⟩ = some (.int .i64 z)) := Lib.hid ⟨fr0, hz⟩
          have b1 := HQ1.out.cell (i := L.fr) (by omega)
          have b1f := HQ1.out.free L.fr
          clear hgb
          have HINV : Hid (∀ (B : Nat → Int) (j : Nat) (x : Int), j = L.fr ∨ j = L.tq → (∀ i, B i ≠ 0 → i < n ∧ openB (c i) = true) → ∀ i, updI B j x i ≠ 0 → i < n ∧ openB (c i) = true) := Lib.hid fun B j x hj h i hi => by
            unfold updI at hi
            split at hi
            · rename_i e
              subst e
              rcases hj with rfl | rfl
              · exact ⟨HL1.out, HO1.out⟩
              · exact ⟨HL2.out, HO2.out⟩
            · exact h i hi
          go_cut [] (fun wx => (∃ B1, BlAt wx (w.heap.size + 1) B1 ∧ Keeps (fun b => b = w.heap.size + 1) W0 wx ∧ ∀ i, B1 i ≠ 0 → i < n ∧ openB (c i) = true) ∧ wx.cell? ⟨g, k * 43 + 1, none⟩ = some (.int .i64 (L.tq : Int)) ∧ wx.cell? ⟨g, k * 43 + 42, none⟩ = some (.int .i64 z))
          case first =>
            have HEND : Hid (∀ x, (∃ B1, BlAt (wr.drew.setCell ⟨w.heap.size + 1, L.fr, none⟩ (.int .i64 x)) (w.heap.size + 1) B1 ∧ Keeps (fun b => b = w.heap.size + 1) W0 (wr.drew.setCell ⟨w.heap.size + 1, L.fr, none⟩ (.int .i64 x)) ∧ ∀ i, B1 i ≠ 0 → i < n ∧ openB (c i) = true) ∧ (wr.drew.setCell ⟨w.heap.size + 1, L.fr, none⟩ (.int .i64 x)).cell? ⟨g, k * 43 + 1, none⟩ = some (.int .i64 (L.tq : Int)) ∧ (wr.drew.setCell ⟨w.heap.size + 1, L.fr, none⟩ (.int .i64 x)).cell? ⟨g, k * 43 + 42, none⟩ = some (.int .i64 z)) :=
              Lib.hid fun x => ⟨⟨updI B L.fr x, HQ1.out.set _ _, (HQ2.out.trans (keeps_drew _ _) fun _ _ h => h).trans (keeps_setCell (H := fun b => b = w.heap.size + 1) _ ⟨w.heap.size + 1, L.fr, none⟩ _ rfl) fun _ _ h => h, HINV.out B L.fr x (.inl rfl) HQ3.out⟩, HSSto.out wr.drew L.fr _ ⟨to0, hz⟩⟩
            rename_i J K2 hJ hK2
            clear hz to0 fr0 cf ct
            refine wp_region_noPanic ?_
            refine wp_region_held_drew (S := (fun u : World => u.cell? ⟨g, k * 43, none⟩ = some (.int .i64 (L.fr : Int)) ∧ u.cell? ⟨g, k * 43 + 42, none⟩ = some (.int .i64 z))) (by kernel_rfl) HSfr.out (fun hHeld => ?_)
            refine wpAnyH_take (i := 0) (v := ?_) (oper_at (r := _) rfl) (by kernel_rfl) (by kernel_rfl) (by kernel_rfl) (fun _ _ _ h => h) (Or.inl ⟨by rfl, ?_⟩) (by assumption) ?_
            rotate_left
            · intro w hSw; try dsimp only at hSw
              go_simp
              try with_reducible rfl
            try simp only [Act.put, List.setIfInBounds_toArray, List.set_cons_zero, List.set_cons_succ]
            refine wpAnyH_take (i := 1) (v := ?_) (oper_at (r := _) rfl) (by kernel_rfl) (by kernel_rfl) (by kernel_rfl) (fun _ _ _ h => h) (Or.inl ⟨by rfl, ?_⟩) (by assumption) ?_
            rotate_left
            · intro w hSw; try dsimp only at hSw
              go_simp
              try with_reducible rfl
            try simp only [Act.put, List.setIfInBounds_toArray, List.set_cons_zero, List.set_cons_succ]
            refine wpAnyH_take (i := 2) (v := ?_) (oper_at (r := _) rfl) (by kernel_rfl) (by kernel_rfl) (by kernel_rfl) (fun _ _ _ h => h) (Or.inl ⟨by rfl, ?_⟩) (by assumption) ?_
            rotate_left
            · intro w hSw; try dsimp only at hSw
              go_simp
              try with_reducible rfl
            try simp only [Act.put, List.setIfInBounds_toArray, List.set_cons_zero, List.set_cons_succ]
            refine wpAnyH_take (i := 3) (v := ?_) (oper_at (r := _) rfl) (by kernel_rfl) (by kernel_rfl) (by kernel_rfl) (fun _ _ _ h => h) (Or.inl ⟨by rfl, ?_⟩) (by assumption) ?_
            rotate_left
            · intro w hSw; try dsimp only at hSw
              go_simp
              try with_reducible rfl
            try simp only [Act.put, List.setIfInBounds_toArray, List.set_cons_zero, List.set_cons_succ]
            refine wpAnyH_take (i := 4) (v := ?_) (oper_at (r := _) rfl) (by kernel_rfl) (by kernel_rfl) (by kernel_rfl) (fun _ _ _ h => h) (Or.inl ⟨by rfl, ?_⟩) (by assumption) ?_
            rotate_left
            · intro w hSw; try dsimp only at hSw
              go_simp
              try with_reducible rfl
            try simp only [Act.put, List.setIfInBounds_toArray, List.set_cons_zero, List.set_cons_succ]
            refine wpAnyH_take (i := 6) (v := ?_) (oper_at (r := _) rfl) (by kernel_rfl) (by kernel_rfl) (by kernel_rfl) (fun _ _ _ h => h) (Or.inl ⟨by rfl, ?_⟩) (by assumption) ?_
            rotate_left
            · intro w hSw; try dsimp only at hSw
              go_simp
              try with_reducible rfl
            try simp only [Act.put, List.setIfInBounds_toArray, List.set_cons_zero, List.set_cons_succ]
            refine wpAnyH_take (i := 7) (v := ?_) (oper_at (r := _) rfl) (by kernel_rfl) (by kernel_rfl) (by kernel_rfl) (fun _ _ _ h => h) (Or.inl ⟨by rfl, ?_⟩) (by assumption) ?_
            rotate_left
            · intro w hSw; try dsimp only at hSw
              go_simp
              try with_reducible rfl
            try simp only [Act.put, List.setIfInBounds_toArray, List.set_cons_zero, List.set_cons_succ]
            refine wpAnyH_take (i := 8) (v := ?_) (oper_at (r := _) rfl) (by kernel_rfl) (by kernel_rfl) (by kernel_rfl) (fun _ _ _ h => h) (Or.inl ⟨by rfl, ?_⟩) (by assumption) ?_
            rotate_left
            · intro w hSw; try dsimp only at hSw
              go_simp
              try with_reducible rfl
            try simp only [Act.put, List.setIfInBounds_toArray, List.set_cons_zero, List.set_cons_succ]
            refine wpAnyH_take (i := 9) (v := ?_) (oper_at (r := _) rfl) (by kernel_rfl) (by kernel_rfl) (by kernel_rfl) (fun _ _ _ h => h) (Or.inl ⟨by rfl, ?_⟩) (by assumption) ?_
            rotate_left
            · intro w hSw; try dsimp only at hSw
              go_simp
              try with_reducible rfl
            try simp only [Act.put, List.setIfInBounds_toArray, List.set_cons_zero, List.set_cons_succ]
            refine wpAnyH_ready (rs := [5]) (by kernel_rfl) (by simp) ?_
            refine (AllReadyH.cons (oper_at (r := _) rfl) (fun K hK => ?_) AllReadyH.nil)
            · go_simp
              refine hK.out _ _ (by first | assumption | exact HSfr.out | exact HSSfr.out _ _ _ (by assumption)) (fun _ => ?_)
              clear hK K
              try simp only [Act.put, List.setIfInBounds_toArray, List.set_cons_zero, List.set_cons_succ]
              refine wpAnyH_take (i := 10) (v := ?_) (oper_at (r := _) rfl) (by kernel_rfl) (by kernel_rfl) (by kernel_rfl) (fun _ _ _ h => h) (Or.inl ⟨by rfl, ?_⟩) (by assumption) ?_
              rotate_left
              · intro w hSw; try dsimp only at hSw
                go_simp
                try with_reducible rfl
              try simp only [Act.put, List.setIfInBounds_toArray, List.set_cons_zero, List.set_cons_succ]
              refine wpAnyH_take (i := 11) (v := ?_) (oper_at (r := _) rfl) (by kernel_rfl) (by kernel_rfl) (by kernel_rfl) (fun _ _ _ h => h) (Or.inl ⟨by rfl, ?_⟩) (by assumption) ?_
              rotate_left
              · intro w hSw; try dsimp only at hSw
                go_simp
                try with_reducible rfl
              try simp only [Act.put, List.setIfInBounds_toArray, List.set_cons_zero, List.set_cons_succ]
              refine wpAnyH_ready (rs := [12]) (by kernel_rfl) (by simp) ?_
              refine AllReadyH.cons (oper_at (r := _) rfl) (fun K hK => ?_) AllReadyH.nil
              go_simp
              refine hK.out _ _ (by first | assumption | exact HSfr.out | exact HSSfr.out _ _ _ (by assumption)) (fun _ => ?_)
              clear hK K
              try simp only [Act.put, List.setIfInBounds_toArray, List.set_cons_zero, List.set_cons_succ]
              refine wpAnyH_done (by kernel_rfl) ?_ _
              refine NoPanic.normal ?_
              refine hK2 _ _ (Met.intro (hJ _ _ ?_)); (repeat apply Exists.intro); exact ⟨HEND.out _, rfl⟩
          case rest =>
            obtain ⟨⟨B1, p1, p2, p3⟩, hto, hz1⟩ := hcut
            have HP1 := Lib.hid p1
            have HP2 := Lib.hid p2
            have HP3 := Lib.hid p3
            have b2 := p1.cell (i := L.tq) (by have := HL2.out; omega)
            have b2f := p1.free L.tq
            have HSto : Hid (wc.drew.cell? ⟨g, k * 43 + 1, none⟩ = some (.int .i64 (L.tq : Int)) ∧ wc.drew.cell? ⟨g, k * 43 + 42, none⟩ = some (.int .i64 z)) := Lib.hid ⟨hto, hz1⟩
            clear p1 p2 p3 hz fr0 to0 cf ct b1 b1f
            go_upto_region 8 with fail
            have HEND : Hid (∀ x, ∃ B2, BlAt (wc.drew.setCell ⟨w.heap.size + 1, L.tq, none⟩ (.int .i64 x)) (w.heap.size + 1) B2 ∧ Keeps (fun b => b = w.heap.size + 1) W0 (wc.drew.setCell ⟨w.heap.size + 1, L.tq, none⟩ (.int .i64 x)) ∧ ∀ i, B2 i ≠ 0 → i < n ∧ openB (c i) = true) :=
                Lib.hid fun x => ⟨updI B1 L.tq x, HP1.out.set _ _, (HP2.out.trans (keeps_drew _ _) fun _ _ h => h).trans (keeps_setCell (H := fun b => b = w.heap.size + 1) _ ⟨w.heap.size + 1, L.tq, none⟩ _ rfl) fun _ _ h => h, HINV.out B1 L.tq x (.inr rfl) HP3.out⟩
            clear hto hz1
            refine wp_region_noPanic ?_
            refine wp_region_held_drew (S := (fun u : World => u.cell? ⟨g, k * 43 + 1, none⟩ = some (.int .i64 (L.tq : Int)) ∧ u.cell? ⟨g, k * 43 + 42, none⟩ = some (.int .i64 z))) (by kernel_rfl) HSto.out (fun hHeld => ?_)
            refine wpAnyH_take (i := 0) (v := ?_) (oper_at (r := _) rfl) (by kernel_rfl) (by kernel_rfl) (by kernel_rfl) (fun _ _ _ h => h) (Or.inl ⟨by rfl, ?_⟩) (by assumption) ?_
            rotate_left
            · intro w hSw; try dsimp only at hSw
              go_simp
              try with_reducible rfl
            try simp only [Act.put, List.setIfInBounds_toArray, List.set_cons_zero, List.set_cons_succ]
            refine wpAnyH_take (i := 1) (v := ?_) (oper_at (r := _) rfl) (by kernel_rfl) (by kernel_rfl) (by kernel_rfl) (fun _ _ _ h => h) (Or.inl ⟨by rfl, ?_⟩) (by assumption) ?_
            rotate_left
            · intro w hSw; try dsimp only at hSw
              go_simp
              try with_reducible rfl
            try simp only [Act.put, List.setIfInBounds_toArray, List.set_cons_zero, List.set_cons_succ]
            refine wpAnyH_take (i := 2) (v := ?_) (oper_at (r := _) rfl) (by kernel_rfl) (by kernel_rfl) (by kernel_rfl) (fun _ _ _ h => h) (Or.inl ⟨by rfl, ?_⟩) (by assumption) ?_
            rotate_left
            · intro w hSw; try dsimp only at hSw
              go_simp
              try with_reducible rfl
            try simp only [Act.put, List.setIfInBounds_toArray, List.set_cons_zero, List.set_cons_succ]
            refine wpAnyH_take (i := 3) (v := ?_) (oper_at (r := _) rfl) (by kernel_rfl) (by kernel_rfl) (by kernel_rfl) (fun _ _ _ h => h) (Or.inl ⟨by rfl, ?_⟩) (by assumption) ?_
            rotate_left
            · intro w hSw; try dsimp only at hSw
              go_simp
              try with_reducible rfl
            try simp only [Act.put, List.setIfInBounds_toArray, List.set_cons_zero, List.set_cons_succ]
            refine wpAnyH_take (i := 4) (v := ?_) (oper_at (r := _) rfl) (by kernel_rfl) (by kernel_rfl) (by kernel_rfl) (fun _ _ _ h => h) (Or.inl ⟨by rfl, ?_⟩) (by assumption) ?_
            rotate_left
            · intro w hSw; try dsimp only at hSw
              go_simp
              try with_reducible rfl
            try simp only [Act.put, List.setIfInBounds_toArray, List.set_cons_zero, List.set_cons_succ]
            refine wpAnyH_take (i := 6) (v := ?_) (oper_at (r := _) rfl) (by kernel_rfl) (by kernel_rfl) (by kernel_rfl) (fun _ _ _ h => h) (Or.inl ⟨by rfl, ?_⟩) (by assumption) ?_
            rotate_left
            · intro w hSw; try dsimp only at hSw
              go_simp
              try with_reducible rfl
            try simp only [Act.put, List.setIfInBounds_toArray, List.set_cons_zero, List.set_cons_succ]
            refine wpAnyH_take (i := 7) (v := ?_) (oper_at (r := _) rfl) (by kernel_rfl) (by kernel_rfl) (by kernel_rfl) (fun _ _ _ h => h) (Or.inl ⟨by rfl, ?_⟩) (by assumption) ?_
            rotate_left
            · intro w hSw; try dsimp only at hSw
              go_simp
              try with_reducible rfl
            try simp only [Act.put, List.setIfInBounds_toArray, List.set_cons_zero, List.set_cons_succ]
            refine wpAnyH_take (i := 8) (v := ?_) (oper_at (r := _) rfl) (by kernel_rfl) (by kernel_rfl) (by kernel_rfl) (fun _ _ _ h => h) (Or.inl ⟨by rfl, ?_⟩) (by assumption) ?_
            rotate_left
            · intro w hSw; try dsimp only at hSw
              go_simp
              try with_reducible rfl
            try simp only [Act.put, List.setIfInBounds_toArray, List.set_cons_zero, List.set_cons_succ]
            refine wpAnyH_take (i := 9) (v := ?_) (oper_at (r := _) rfl) (by kernel_rfl) (by kernel_rfl) (by kernel_rfl) (fun _ _ _ h => h) (Or.inl ⟨by rfl, ?_⟩) (by assumption) ?_
            rotate_left
            · intro w hSw; try dsimp only at hSw
              go_simp
              try with_reducible rfl
            try simp only [Act.put, List.setIfInBounds_toArray, List.set_cons_zero, List.set_cons_succ]
            refine wpAnyH_ready (rs := [5]) (by kernel_rfl) (by simp) ?_
            refine (AllReadyH.cons (oper_at (r := _) rfl) (fun K hK => ?_) AllReadyH.nil)
            · go_simp
              refine hK.out _ _ (by first | assumption | exact HSto.out | exact HSSto.out _ _ _ (by assumption)) (fun _ => ?_)
              clear hK K
              try simp only [Act.put, List.setIfInBounds_toArray, List.set_cons_zero, List.set_cons_succ]
              refine wpAnyH_take (i := 10) (v := ?_) (oper_at (r := _) rfl) (by kernel_rfl) (by kernel_rfl) (by kernel_rfl) (fun _ _ _ h => h) (Or.inl ⟨by rfl, ?_⟩) (by assumption) ?_
              rotate_left
              · intro w hSw; try dsimp only at hSw
                go_simp
                try with_reducible rfl
              try simp only [Act.put, List.setIfInBounds_toArray, List.set_cons_zero, List.set_cons_succ]
              refine wpAnyH_take (i := 11) (v := ?_) (oper_at (r := _) rfl) (by kernel_rfl) (by kernel_rfl) (by kernel_rfl) (fun _ _ _ h => h) (Or.inl ⟨by rfl, ?_⟩) (by assumption) ?_
              rotate_left
              · intro w hSw; try dsimp only at hSw
                go_simp
                try with_reducible rfl
              try simp only [Act.put, List.setIfInBounds_toArray, List.set_cons_zero, List.set_cons_succ]
              refine wpAnyH_ready (rs := [12]) (by kernel_rfl) (by simp) ?_
              refine AllReadyH.cons (oper_at (r := _) rfl) (fun K hK => ?_) AllReadyH.nil
              go_simp
              refine hK.out _ _ (by first | assumption | exact HSto.out | exact HSSto.out _ _ _ (by assumption)) (fun _ => ?_)
              clear hK K
              try simp only [Act.put, List.setIfInBounds_toArray, List.set_cons_zero, List.set_cons_succ]
              refine wpAnyH_done (by kernel_rfl) ?_ _
              refine NoPanic.normal ?_
              obtain ⟨B2, r1, r2, r3⟩ := HEND.out _
              have HR := Lib.hid (And.intro r1 (And.intro r2 r3))
              clear r1 r2 r3
              go_wp2_with fail
              go_roundw
              case rel => exact ⟨k + 1, B2, HHL.out, by go_num, HR.out⟩
              case measure => exact HM.out
    · obtain rfl : k = ls.length := by omega
      have HQ1 := Lib.hid q1
      have HQ2 := Lib.hid q2
      have HQ3 := Lib.hid q3
      have HQC := Lib.hid qc
      clear q1 q2 q3 q4 qc hbx hlt2
      go_upto_region 12 with (with_reducible refine wpList_load_ch rfl _ rfl w.heap.size c rfl HQC.out.range ?_)
      go_loopw [8, 67] (fun v u wr2 => ∃ i : Nat, i ≤ 40 ∧ u = .int .i64 (i : Int) ∧ Below wr.heap.size wr wr2 ∧ (v = .int .i64 (-1) ∨ ∃ r : Nat, r < n ∧ openB (c r) = true ∧ v = .int .i64 (r : Int))) (fun _ u _ => 40 - (intOf u).toNat)
      case atStart => exact ⟨0, by omega, rfl, Below.refl _ _, .inl rfl⟩
      case round =>
        obtain ⟨i, hi, rfl, hbw, hv⟩ := hrel
        have hBl : BlAt wr (w.heap.size + 1) B := (hbw.block _ HQ1.out.lt).trans HQ1.out
        have hCl : ChAt wr 108 w.heap.size c := HQC.out.up hbw
        have HBW := Lib.hid hbw
        have HV := Lib.hid hv
        by_cases hi2 : i < 40
        · have ci := chA_get c hi2
          have bi := hBl.cell hi2
          have i0 : (0 : Int) ≤ (i : Int) := by omega
          have i1 : (i : Int) < 40 := by omega
          have i2 : ((i : Int)).toNat = i := by omega
          have i3 : (i : Int) + 1 ≤ 1000 := by omega
          have HSZ := Lib.hid (fun (j : Nat) (W : World) => (size_any (c j) (by have := hc j; omega) W).mono (R' := fun e w' => e = .returned (.int .i64 ((bitsOf (c j)).length : Int)) ∧ w' = W) fun e w' h => And.intro h.1 h.2.symm)
          have hidx := run_index_ch c hi2
          have HOPN := Lib.hid (fun (h : B i ≠ 0) => HQ3.out i h)
          have HI2 := Lib.hid hi2
          have HM : Hid (40 - ((i : Int) + 1).toNat < 40 - ((i : Int)).toNat) := Lib.hid (by omega)
          have HBD := Lib.hid hBl
          have HCD := Lib.hid hCl
          go_upto_region 14 with fail
          clear hidx
          by_cases hb : 0 < B i
          · have HOP := Lib.hid (HOPN.out (by omega))
            rcases hv with rfl | ⟨r, hr1, hr2, rfl⟩
            · clear ci hbw hBl hCl
              go_quiet (fail)
              go_wp2_with fail
              go_roundw
              case rel => exact ⟨i + 1, by have := HI2.out; omega, by go_num, (HBW.out.trans (below_draws (Below.refl _ _) _)), .inr ⟨i, HOP.out.1, HOP.out.2, rfl⟩⟩
              case measure => exact HM.out
            · have hr40 : r < 40 := by omega
              have br := HBD.out.cell hr40
              have cr := HCD.out.cell hr40
              have r0 : (0 : Int) ≤ (r : Int) := by omega
              have r1 : (r : Int) < 40 := by omega
              have r2 : ((r : Int)).toNat = r := by omega
              have HR1 := Lib.hid hr1
              have HR2 := Lib.hid hr2
              clear ci hbw hBl hCl hr1 hr2 hr40
              have HZ1 := Lib.hid (HSZ.out i)
              have HZ2 := Lib.hid (HSZ.out r)
              go_quiet ((go_at_call 114; first | exact Calls.quiet_of_same (HZ1.out _) | exact Calls.quiet_of_same (HZ2.out _)))
              have HI3 : Hid (i + 1 ≤ 40) := Lib.hid (by have := HI2.out; omega)
              go_wp2_with fail
              all_goals
                go_roundw
                case rel => first | exact ⟨i + 1, HI3.out, by go_num, (HBW.out.trans (below_draws (Below.refl _ _) _)), .inr ⟨i, HOP.out.1, HOP.out.2, rfl⟩⟩ | exact ⟨i + 1, HI3.out, by go_num, (HBW.out.trans (below_draws (Below.refl _ _) _)), .inr ⟨r, HR1.out, HR2.out, rfl⟩⟩
                case measure => exact HM.out
          · have hb' : B i ≤ 0 := by omega
            have t1 : decide (0 < B i) = false := decide_eq_false hb
            have t2 : decide (B i > 0) = false := decide_eq_false hb
            clear ci hbw hBl hCl
            go_quiet (fail)
            go_wp2_with fail
            go_roundw
            case rel => exact ⟨i + 1, by have := HI2.out; omega, by go_num, (HBW.out.trans (below_draws (Below.refl _ _) _)), HV.out⟩
            case measure => exact HM.out
        · obtain rfl : i = 40 := by omega
          have HE : Hid (Below w.heap.size w wr) := Lib.hid (HB0.out.trans ((HQ2.out.trans (Keeps.of_below' (fun b => b = w.heap.size + 1) HBW.out) fun _ _ h => h).below (B := w.heap.size) HB0.out.size (fun i hi h => by omega)))
          clear hbw hBl hCl
          rcases hv with rfl | ⟨r, hr1, hr2, rfl⟩
          · go_wp2_with fail
            go_ret
            exact ⟨HE.out, .inl rfl⟩
          · go_wp2_with fail
            go_ret
            exact ⟨HE.out, .inr ⟨r, hr1, hr2, rfl⟩⟩

end Go.Proofs.YtaeelanbkdkppaaDoor

/-
  The program's look ahead: whether narrowed choices can have a solution.
-/
namespace Go.Proofs.YtaeelanbkdkppaaDoor
open Go.RowKit Go.Shelf

attribute [local go_sem] Oper.semAt_some

/-- the blocks P are a round's own; the others from before lie as they lay -/
def Mine (w0 : World) (P : Blks) (C : World → Prop) (H : Blks) (V : World) : Prop :=
  (∀ b, H b ↔ P b) ∧ w0.heap.size ≤ V.heap.size ∧ (∀ b, b < w0.heap.size → ¬ P b → V.heap[b]? = w0.heap[b]?) ∧ C V
theorem Mine.foot {w0 : World} {P : Blks} {C : World → Prop} (hP : ∀ b, P b → b < w0.heap.size) (hC : ∀ V V', w0.heap.size ≤ V.heap.size → V.heap.size ≤ V'.heap.size → (∀ b, b < w0.heap.size → V'.heap[b]? = V.heap[b]?) → C V → C V') : Foot (fun b => b < w0.heap.size) (Mine w0 P C) := by
  rintro H V ⟨h1, h2, h3, h4⟩
  exact ⟨fun b hb => Nat.lt_of_lt_of_le (hP b ((h1 b).1 hb)) h2, fun V' hs hb => ⟨h1, Nat.le_trans h2 hs, fun b hl hn => (hb b (.inr hl)).trans (h3 b hl hn), hC V V' h2 hs (fun b hl => hb b (.inr hl)) h4⟩⟩

theorem heap_upb {w w1 : World} {B b : Nat} {o : Obj} (hb : Below B w w1) (h : w.heap[b]? = some o) (hlt : b < B) : w1.heap[b]? = some o := (hb.block b hlt).trans h
theorem results_bool {fn : Func} {p : Tmp} (h : fn.results = #[.cell p 4]) (tmps : Array Value) (w : World) (g : Nat) (b : Bool)
    (hp : tmps.getD p undef = .pointer (some ⟨g, 0, none⟩)) (hg : Boxed w g 4 (.bool b)) : (results fn tmps).run Tryd.prog w = .ok (.bool b) w := by
  have hp' : tmps[p]?.getD undef = .pointer (some ⟨g, 0, none⟩) := by simpa using hp
  have hc := hg.cell
  simp [results, h, hp', asAddr, go_sem, hc]
/-- from a call's beginning tq its end, over a loop -/
theorem keeps_fin {H0 : Blks} {w W1 W Wz : World} {P : Blks} {rb D : Nat} (hB : Below w.heap.size w W1) (hk : Keeps P W1 W) (hP : ∀ b, P b → b < w.heap.size → H0 b) (hrb : w.heap.size ≤ rb) (hD : w.heap.size ≤ D) (hz : Keeps (fun b => b = rb ∨ b = D) W Wz) : Keeps H0 w Wz := by
  have h1 : Keeps (fun b => H0 b ∨ P b ∨ b = rb ∨ b = D) w Wz := ((Keeps.of_below' _ hB).trans hk fun _ _ h => .inr (.inl h)).trans hz fun _ _ h => .inr (.inr h)
  refine h1.mono fun i hi h => ?_
  rcases h with h | h | h | h
  · exact h
  · exact hP i h hi
  · omega
  · omega
/-- what isPossible answers -/
def PosEnd (n : Nat) (ls : List Lk) (c : Choices) (fb g : Nat) (A : Option Addr) (cap : Nat) (w : World) (e : Ending) (w' : World) : Prop :=
  ∃ b : Bool, e = .returned (.bool b) ∧ Keeps (fun i => i = g ∧ 0 < ls.length) w w' ∧ FinAt w' fb g A cap ls ∧ (b = false → ∀ l, ¬ Sol n ls c l)
theorem sol_node {n : Nat} {ls : List Lk} {c : Choices} (hc : Small c) {node : Nat} (hn : node < n) {l : List Int} (h : Sol n ls c l) : ∃ v, v ∈ bitsOf (c node) ∧ Sol n ls (upd c node (sh v)) l := by
  have h0 := h.1.2 node hn
  have hv := (mem_bits40 (hc node)).2 h0.2
  refine ⟨_, hv, ⟨h.1.1, fun j hj => ?_⟩, h.2⟩
  by_cases ej : j = node
  · subst ej
    rw [upd_same, sh_bit]
    exact ⟨h0.1, by simp⟩
  · rw [upd_other _ _ ej]
    exact h.1.2 j hj
theorem settle_size {c : Choices} (hc : Small c) {node v : Nat} (hn : node < 40) (hv : v ∈ bitsOf (c node)) (ho : openB (c node) = true) : Sub (upd c node (sh v)) c ∧ sizeC (upd c node (sh v)) < sizeC c := by
  have hs : Sub (upd c node (sh v)) c := fun i u h => by
    by_cases e : i = node
    · subst e
      rw [upd_same, sh_bit] at h
      have : v = u := by simpa using h
      subst this
      exact (mem_bits40 (hc i)).1 hv
    · rwa [upd_other _ _ e] at h
  refine ⟨hs, size_lt hs hn ?_⟩
  rw [upd_same]
  intro e
  have := of_decide_eq_true (p := 1 < (bitsOf (c node)).length) ho
  rw [← e, bitsOf_sh (bits40 (hc node) hv)] at this
  simp at this

/-- no element so far has a solution -/
def NoneOf (n : Nat) (ls : List Lk) (c : Choices) (node : Nat) (pre : List Nat) : Prop := ∀ v ∈ pre, ∀ l, ¬ Sol n ls (upd c node (sh v)) l
def IsRet (code : Code) : Prop := code = .ret
/-- a round's blocks: the result's box, which holds b, and the links -/
def PosM (ls : List Lk) (fb g : Nat) (A : Option Addr) (cap : Nat) (W1 : World) (rb : Nat) (b : Bool) (H : Blks) (V : World) : Prop :=
  Mine W1 (fun i => i = rb ∨ (i = g ∧ 0 < ls.length)) (fun V => V.heap[rb]? = some (.cells #[.bool b] 4 (0, 0)) ∧ FinAt V fb g A cap ls) H V

set_option maxRecDepth 100000 in
set_option maxHeartbeats 2000000 in
theorem possible_of (n : Nat) (hn : n ≤ 40) (ls : List Lk) (hls : LsOk n ls) (hll : ls.length ≤ 1000) (c : Choices) (hc : Small c) (fb g : Nat) (A : Option Addr) (cap : Nat) (hg0 : g ≠ 0)
    (IH : ∀ (node v : Nat), node < n → v ∈ bitsOf (c node) → openB (c node) = true → ∀ W, 0 < W.heap.size → TabW W → FinAt W fb g A cap ls →
      Calls Tryd.prog 99 #[.pointer (some ⟨fb, 0, none⟩), .agg (chA c), .int .i64 (node : Int), .int .i64 (v : Int)] W (NarEnd n ls (upd c node (sh v)) fb g A cap W))
    (w : World) (h00 : 0 < w.heap.size) (hT : TabW w) (hF : FinAt w fb g A cap ls) :
    Calls Tryd.prog 95 #[.pointer (some ⟨fb, 0, none⟩), .agg (chA c)] w (PosEnd n ls c fb g A cap w) := by
  refine (callsIn_wide (n := 6)).1 ?_
  refine callsIn_of_wp_marks Tryd.func95 rfl trivial ?_ rfl
  simp only [Tryd.ntmps95, List.size_toArray, List.length_cons, List.length_nil, Nat.reduceAdd, Nat.reduceSub, Array.replicate_succ, Array.replicate_zero, List.push_toArray, List.append_toArray, List.nil_append, List.cons_append]
  gi_upto_region 1 with fail
  generalize hW0 : ((w.alloc _).alloc _).alloc _ = W0
  have hB : Below w.heap.size w W0 := by
    rw [← hW0]
    refine Below.alloc (Below.alloc (Below.alloc (Below.refl _ _) ?_ _) ?_ _) ?_ _ <;> simp <;> omega
  have hs : W0.heap.size = w.heap.size + 3 := by rw [← hW0]; simp
  have b2 : Boxed W0 w.heap.size 112 (.pointer (some ⟨fb, 0, none⟩)) := by rw [← hW0]; simp only [Boxed, at_alloc, size_alloc]; repeat (first | rfl | (split; · (first | rfl | omega)))
  have b3 : ChAt W0 108 (w.heap.size + 1) c := by rw [← hW0]; simp only [ChAt, at_alloc, size_alloc]; repeat (first | rfl | (split; · (first | rfl | omega)))
  have b4 : Boxed W0 (w.heap.size + 1 + 1) 4 (.bool false) := by rw [← hW0]; simp only [Boxed, at_alloc, size_alloc]; repeat (first | rfl | (split; · (first | rfl | omega)))
  have hF0 := hF.below hB
  have hlt := hF.lt
  have HB := Lib.hid hB
  have HB2 := Lib.hid b2
  have HB3 := Lib.hid b3
  have HB4 := Lib.hid b4
  have HF0 := Lib.hid hF0
  have HFW := Lib.hid hF
  have HT := Lib.hid hT
  have d2 := b2.cell
  have HAR := Lib.hid ((hardest_any n hn ls hls hll c hc fb g A cap W0 hF0).mono (R' := fun e w' => ∃ z : Int, e = .returned (.int .i64 z) ∧ Below W0.heap.size W0 w' ∧ (z = -1 ∨ ∃ i : Nat, i < n ∧ openB (c i) = true ∧ z = (i : Int))) fun e w' h => by
    obtain ⟨h1, h2 | ⟨i, h2, h3, h4⟩⟩ := h
    · exact ⟨_, h2, h1, .inl rfl⟩
    · exact ⟨_, h4, h1, .inr ⟨i, h2, h3, rfl⟩⟩)
  clear hW0 hB b2 b3 b4 hF0 hF hT
  gi_upto_region 2 with (first | (with_reducible refine wpListIn_load_ch rfl _ rfl (w.heap.size + 1) c rfl HB3.out.range ?_) | (refine ⟨trivial, ?_⟩; gi_at_call 113; refine (callsIn_wide.2 HAR.out).mono ?_; rintro e w1 ⟨z, rfl, hb1, hz⟩))
  generalize hW1 : w1.alloc _ = W1
  have hB1 : Below W0.heap.size W0 W1 := by rw [← hW1]; exact hb1.trans (((Below.refl _ w1).alloc (Nat.le_refl _) _).mono hb1.size)
  have hs1 : W1.heap.size = w1.heap.size + 1 := by rw [← hW1]; simp
  have hsz : W0.heap.size ≤ w1.heap.size := hb1.size
  have c5 : Boxed W1 w1.heap.size 3 (.int .i64 z) := by rw [← hW1]; exact Boxed.new w1 _ _
  have c2 : Boxed W1 w.heap.size 112 (.pointer (some ⟨fb, 0, none⟩)) := heap_upb hB1 HB2.out (by omega)
  have c3 : ChAt W1 108 (w.heap.size + 1) c := heap_upb hB1 HB3.out (by omega)
  have c4 : Boxed W1 (w.heap.size + 1 + 1) 4 (.bool false) := heap_upb hB1 HB4.out (by omega)
  generalize w1.heap.size = b5 at *
  have HBW1 : Hid (Below w.heap.size w W1) := Lib.hid (HB.out.trans (hB1.mono (by omega)))
  have HF1 := Lib.hid (HFW.out.below HBW1.out)
  have HT1 : Hid (TabW W1) := Lib.hid (HT.out.up (HBW1.out.block 0 h00))
  have HC2 := Lib.hid c2
  have HC3 := Lib.hid c3
  have HC4 := Lib.hid c4
  have HC5 := Lib.hid c5
  have e5 := c5.cell
  clear hW1 hB1 hb1
  rcases hz with rfl | ⟨node, hn1, ho, rfl⟩
  · have e4 := c4.cell
    have e4f := c4.frozen
    have HE : Hid (Keeps (fun i => i = g ∧ 0 < ls.length) w (W1.setCell ⟨w.heap.size + 1 + 1, 0, none⟩ (.bool true)) ∧ FinAt (W1.setCell ⟨w.heap.size + 1 + 1, 0, none⟩ (.bool true)) fb g A cap ls) := by
      have hb : Below w.heap.size w (W1.setCell ⟨w.heap.size + 1 + 1, 0, none⟩ (.bool true)) := HBW1.out.setCell (p := ⟨w.heap.size + 1 + 1, 0, none⟩) (show w.heap.size ≤ w.heap.size + 1 + 1 by omega) _
      exact Lib.hid ⟨Keeps.of_below' _ hb, HFW.out.below hb⟩
    have HR := Lib.hid (HC4.out.set (.bool true))
    clear c2 c3 c4 c5
    gi_wp2
    refine ⟨_, results_bool rfl _ _ (w.heap.size + 1 + 1) true rfl HR.out, true, rfl, HE.out.1, HE.out.2, fun h => by cases h⟩
  · have cn := c3.cell (i := node) (by omega)
    have n0 : (0 : Int) ≤ (node : Int) := by omega
    have n1 : (node : Int) < 40 := by omega
    have n2 : ((node : Int)).toNat = node := by omega
    clear c2 c3 c4 c5
    gi_wp2
    have hFa := HF1.out
    have hTa := HT1.out
    have h001 : 0 < W1.heap.size := Nat.lt_of_lt_of_le h00 HBW1.out.size
    have hgn : 0 < ls.length → g < w.heap.size := fun h => (HFW.out.at_ 0 h).2.1
    have hP : ∀ b, (b = w.heap.size + 1 + 1 ∨ (b = g ∧ 0 < ls.length)) → b < W1.heap.size := by
      rintro b (rfl | ⟨rfl, h⟩)
      · exact HC4.out.lt
      · have := hgn h; have := HBW1.out.size; omega
    refine wpIn_visits (gf := 98) (ba := #[.int .u64 (c node : Int)]) (lb := #[]) rfl (enters_of Tryd.func98 (by kernel_rfl) rfl) (all_visits (c node) (by have := hc node; omega) W1 h001 hTa) (fun x G V vs h => by rw [h.2]; rfl)
      (fun pre H V => NoneOf n ls c node pre ∧ PosM ls fb g A cap W1 (w.heap.size + 1 + 1) false H V)
      (fun code H V => IsRet code ∧ PosM ls fb g A cap W1 (w.heap.size + 1 + 1) true H V)
      ?fI ?fX (fun b => b = w.heap.size + 1 + 1 ∨ (b = g ∧ 0 < ls.length)) ⟨(fun _ h => by cases h), fun b => Iff.rfl, Nat.le_refl _, fun _ _ _ => rfl, HC4.out, hFa⟩ ?hO ?round ?done ?stop
    case fI =>
      exact fun pre => (Mine.foot hP fun V V' h1 h2 h3 h4 => ⟨(h3 _ HC4.out.lt).trans h4.1, h4.2.up h2 (h3 _ (by omega)) fun h => h3 _ (hP g (.inr ⟨rfl, h⟩))⟩).pure _
    case fX =>
      exact fun _ => (Mine.foot hP fun V V' h1 h2 h3 h4 => ⟨(h3 _ HC4.out.lt).trans h4.1, h4.2.up h2 (h3 _ (by omega)) fun h => h3 _ (hP g (.inr ⟨rfl, h⟩))⟩).pure _
    case hO =>
      rintro b rfl
      exact ⟨fun h => h.elim (fun h => by omega) (fun h => hg0 h.1.symm), h001⟩
    case round =>
      rintro l pre x H G vs V K hl ⟨r, hr⟩ hHl hGl ⟨hpre, i1, i2, i3, i4, i5⟩ hx ⟨hG0, rfl⟩ hGa hK
      have hx := pre_mem hx
      dsimp only
      gi_wp2
      refine hK _ _ (Keeps.refl _ _) fun r => ?_
      have hh : ∀ b, b < W1.heap.size → (V.putObj l (.loop r)).heap[b]? = V.heap[b]? := fun b hb => World.putObj_heap_other (by omega)
      have oth : ∀ b, b < W1.heap.size → b ≠ w.heap.size + 1 + 1 → (0 < ls.length → b ≠ g) → (V.putObj l (.loop r)).heap[b]? = W1.heap[b]? := fun b hb h1 h2 => (hh b hb).trans (i3 b hb (fun h => h.elim h1 (fun h => h2 h.2 h.1)))
      have l1 := HC2.out.lt
      have l2 := HC3.out.lt
      have l3 := HC4.out.lt
      have l5 := HC5.out.lt
      have k2 : Boxed (V.putObj l (.loop r)) w.heap.size 112 (.pointer (some ⟨fb, 0, none⟩)) := (oth _ l1 (by omega) (fun h => by have := hgn h; omega)).trans HC2.out
      have k3 : ChAt (V.putObj l (.loop r)) 108 (w.heap.size + 1) c := (oth _ l2 (by omega) (fun h => by have := hgn h; omega)).trans HC3.out
      have k5 : Boxed (V.putObj l (.loop r)) b5 3 (.int .i64 (node : Int)) := (oth _ l5 (by omega) (fun h => by have := hgn h; omega)).trans HC5.out
      have k4 : Boxed (V.putObj l (.loop r)) (w.heap.size + 1 + 1) 4 (.bool false) := (hh _ l3).trans i4
      have kF : FinAt (V.putObj l (.loop r)) fb g A cap ls := i5.up (by simp) (hh _ (by omega)) (fun h => hh _ (hP g (.inr ⟨rfl, h⟩)))
      have kT : TabW (V.putObj l (.loop r)) := hTa.up (oth 0 h001 (by omega) (fun _ h => hg0 h.symm))
      have hsz : V.heap.size = (V.putObj l (.loop r)).heap.size := by simp
      have i6 : ∀ b, b < W1.heap.size → ¬ (b = w.heap.size + 1 + 1 ∨ (b = g ∧ 0 < ls.length)) → (V.putObj l (.loop r)).heap[b]? = W1.heap[b]? := fun b hb hn => (hh b hb).trans (i3 b hb hn)
      rw [hsz] at i2 ⊢
      generalize V.putObj l (.loop r) = U at *
      have HK2 := Lib.hid k2
      have HK3 := Lib.hid k3
      have HK4 := Lib.hid k4
      have HK5 := Lib.hid k5
      have HKF := Lib.hid kF
      have HI1 := Lib.hid i1
      have HI2 := Lib.hid i2
      have HI6 := Lib.hid i6
      have HSL := Lib.hid (IH node x hn1 hx ho U (by omega) kT kF)
      have f2 := k2.cell
      have f5 := k5.cell
      have hPre2 : Hid ((∀ l, ¬ Sol n ls (upd c node (sh x)) l) → NoneOf n ls c node (pre ++ [x])) := Lib.hid fun h v hv => (List.mem_append.1 hv).elim (hpre v) (fun h2 => by rw [List.mem_singleton.1 h2]; exact h)
      have HGN := Lib.hid hgn
      have HP := Lib.hid hP
      have HG0 := Lib.hid hG0
      clear hG0 hGa
      clear hr hHl hGl hpre i1 i2 i3 i4 i5 i6 hK hh oth k2 k3 k4 k5 kF kT l1 l2 l3 l5 hsz hx cn hFa hTa hgn hP e5
      gi_upto_region 7 with (first | (simp only [ch_zero]) | (with_reducible refine wpListIn_load_ch rfl _ rfl (w.heap.size + 1) c rfl HK3.out.range ?_) | (refine ⟨trivial, ?_⟩; gi_at_call 99; refine (CallsIn.inRound l (callsIn_wide.2 HSL.out)).mono ?_; rintro e w3 ⟨c', b, rfl, hk3, hF3, hs3, ht3, hf3⟩) | (with_reducible refine wpListIn_store_chn rfl _ _ rfl w3.heap.size c' (fun _ => 0) rfl rfl rfl ?_))
      have HKA := Lib.hid ((hk3.mono (K := fun b => H b ∨ G b) fun i _ h => .inl ((HI1.out i).2 (.inr h))).trans (keeps_alloc _ w3 (.cells (chA c') 108)) fun _ _ h => h)
      have q4 : Boxed (w3.alloc (.cells (chA c') 108)) (w.heap.size + 1 + 1) 4 (.bool false) := by
        have l4 := HK4.out.lt
        have := hk3.block _ l4 (fun h => by have := HGN.out h.2; omega)
        exact Boxed.alloc (show Boxed w3 _ _ _ from this.trans HK4.out) _
      have HFA := Lib.hid (hF3.below ((Below.refl _ w3).alloc (Nat.le_refl _) (.cells (chA c') 108)))
      have HSZ : Hid (W1.heap.size ≤ (w3.alloc (.cells (chA c') 108)).heap.size) := Lib.hid (by have := hk3.size; have := HI2.out; simp; omega)
      have HI7 : Hid (∀ b, b < W1.heap.size → ¬ (b = w.heap.size + 1 + 1 ∨ (b = g ∧ 0 < ls.length)) → (w3.alloc (.cells (chA c') 108)).heap[b]? = W1.heap[b]?) := by
        refine Lib.hid fun b hb hn => ?_
        have h1 : b < U.heap.size := Nat.lt_of_lt_of_le hb HI2.out
        rw [Below.heap_alloc _ _ _ (Nat.lt_of_lt_of_le h1 hk3.size)]
        exact (hk3.block b h1 (fun h => hn (.inr h))).trans (HI6.out b hb hn)
      have HQ4 := Lib.hid q4
      have HF3 := Lib.hid (hf3 : b = false → _)
      clear hk3 hF3 ht3 hf3 f2 f5
      generalize w3.alloc (.cells (chA c') 108) = Wf at *
      cases b
      · have HN2 := Lib.hid (hPre2.out (HF3.out rfl))
        clear q4 HF3
        gi_wp2
        exact ⟨HKA.out, H, fun b h => .inl (.inl h), HN2.out, HI1.out, HSZ.out, HI7.out, HQ4.out, HFA.out⟩
      · have g4 := q4.cell
        have g4f := q4.frozen
        have HEND : Hid (Keeps (fun b => H b ∨ G b) U (Wf.setCell ⟨w.heap.size + 1 + 1, 0, none⟩ (.bool true)) ∧ ∃ H', (∀ b, H' b → (H b ∨ G b) ∨ U.heap.size ≤ b) ∧ IsRet Code.ret ∧ PosM ls fb g A cap W1 (w.heap.size + 1 + 1) true H' (Wf.setCell ⟨w.heap.size + 1 + 1, 0, none⟩ (.bool true))) := by
          refine Lib.hid ⟨HKA.out.trans (keeps_setCell (H := fun b => H b ∨ G b) Wf ⟨w.heap.size + 1 + 1, 0, none⟩ _ (.inl ((HI1.out _).2 (.inl rfl)))) fun _ _ h => h, H, fun b h => .inl (.inl h), rfl, HI1.out, by simpa [World.setCell] using HSZ.out, fun b hb hn => ?_, HQ4.out.set _, ?_⟩
          · rw [heap_setCell_other _ _ _ _ (show b ≠ w.heap.size + 1 + 1 from fun e => hn (.inl e))]
            exact HI7.out b hb hn
          · exact HFA.out.up (by simp [World.setCell]) (heap_setCell_other _ _ _ _ (show fb ≠ w.heap.size + 1 + 1 by omega)) (fun h => heap_setCell_other _ _ _ _ (show g ≠ w.heap.size + 1 + 1 by have := HGN.out h; omega))
        clear q4
        gi_wp2
        exact HEND.out
    case done =>
      rintro D H W hD hHD hg2 ⟨hpre, i1, i2, i3, i4, i5⟩ hk hKd
      have k4 : Boxed W (w.heap.size + 1 + 1) 4 (.bool false) := i4
      have g4 := k4.cell
      have g4f := k4.frozen
      have l4 := HC4.out.lt
      have HNS : Hid (∀ l, ¬ Sol n ls c l) := Lib.hid fun l h => by
        obtain ⟨v, hv, h2⟩ := sol_node hc hn1 h
        exact hpre v hv l h2
      have HKD : Hid ((W.setCell ⟨w.heap.size + 1 + 1, 0, none⟩ (.bool false)).heap[D]? = some (.deferred (some []))) := Lib.hid ((heap_setCell_other _ _ _ _ (show D ≠ w.heap.size + 1 + 1 by omega)).trans hKd)
      have hkz : Keeps (fun b => b = w.heap.size + 1 + 1 ∨ b = D) W ((W.setCell ⟨w.heap.size + 1 + 1, 0, none⟩ (.bool false)).putObj D (.deferred none)) :=
        (keeps_setCell (H := fun b => b = w.heap.size + 1 + 1 ∨ b = D) W ⟨w.heap.size + 1 + 1, 0, none⟩ _ (.inl rfl)).trans (keeps_putObj (H := fun b => b = w.heap.size + 1 + 1 ∨ b = D) _ D _ (.inr rfl)) fun _ _ h => h
      have HE : Hid (Keeps (fun i => i = g ∧ 0 < ls.length) w ((W.setCell ⟨w.heap.size + 1 + 1, 0, none⟩ (.bool false)).putObj D (.deferred none)) ∧ FinAt ((W.setCell ⟨w.heap.size + 1 + 1, 0, none⟩ (.bool false)).putObj D (.deferred none)) fb g A cap ls) :=
        Lib.hid ⟨keeps_fin HBW1.out hk (fun b h hb => h.elim (fun h => by omega) id) (by omega) (by have := HBW1.out.size; omega) hkz,
          i5.up hkz.size (hkz.block _ i5.lt (fun h => by have := HBW1.out.size; omega)) (fun h => hkz.block _ (i5.at_ 0 h).2.1 (fun h2 => by have := hgn h; have := HBW1.out.size; omega))⟩
      have HRB : Hid (Boxed ((W.setCell ⟨w.heap.size + 1 + 1, 0, none⟩ (.bool false)).putObj D (.deferred none)) (w.heap.size + 1 + 1) 4 (.bool false)) := Lib.hid ((World.putObj_heap_other (by omega)).trans (k4.set (.bool false)))
      clear hpre i1 i2 i3 i4 i5 hk hKd hg2 hHD k4 hkz
      gi_wp2
      refine ⟨by simp, .inl ⟨_, _, rfl, run_takeDeferred HKD.out, ?_⟩⟩
      exact ⟨_, results_bool rfl _ _ (w.heap.size + 1 + 1) false rfl HRB.out, false, rfl, HE.out.1, HE.out.2, fun _ => HNS.out⟩
    case stop =>
      rintro D code H W hD hHD hg2 ⟨rfl, i1, i2, i3, i4, i5⟩ hk hKd
      have l4 := HC4.out.lt
      have HKD := Lib.hid hKd
      have hkz : Keeps (fun b => b = w.heap.size + 1 + 1 ∨ b = D) W (W.putObj D (.deferred none)) := keeps_putObj (H := fun b => b = w.heap.size + 1 + 1 ∨ b = D) _ D _ (.inr rfl)
      have HE : Hid (Keeps (fun i => i = g ∧ 0 < ls.length) w (W.putObj D (.deferred none)) ∧ FinAt (W.putObj D (.deferred none)) fb g A cap ls) :=
        Lib.hid ⟨keeps_fin HBW1.out hk (fun b h hb => h.elim (fun h => by omega) id) (by omega) (by have := HBW1.out.size; omega) hkz,
          i5.up hkz.size (hkz.block _ i5.lt (fun h => by have := HBW1.out.size; omega)) (fun h => hkz.block _ (i5.at_ 0 h).2.1 (fun h2 => by have := hgn h; have := HBW1.out.size; omega))⟩
      have HRB : Hid (Boxed (W.putObj D (.deferred none)) (w.heap.size + 1 + 1) 4 (.bool true)) := Lib.hid ((World.putObj_heap_other (by omega)).trans i4)
      clear i1 i2 i3 i4 i5 hk hKd hg2 hHD hkz
      gi_wp2
      refine ⟨by simp, .inl ⟨_, _, rfl, run_takeDeferred HKD.out, ?_⟩⟩
      exact ⟨_, results_bool rfl _ _ (w.heap.size + 1 + 1) true rfl HRB.out, true, rfl, HE.out.1, HE.out.2, fun h => by cases h⟩

end Go.Proofs.YtaeelanbkdkppaaDoor

/-
  The program's examination of choices: what is left of them, and whether they can have a solution.
-/
namespace Go.Proofs.YtaeelanbkdkppaaDoor
open Go.RowKit

set_option maxRecDepth 100000 in
set_option maxHeartbeats 2000000 in
theorem settle_of (n : Nat) (ls : List Lk) (c : Choices) (fb g : Nat) (A : Option Addr) (cap : Nat) (_ : g ≠ 0) (node v : Nat) (hn : node < 40) (hv : v < 40)
    (IH : ∀ W, 0 < W.heap.size → TabW W → FinAt W fb g A cap ls → Calls Tryd.prog 81 #[.pointer (some ⟨fb, 0, none⟩), .agg (chA (upd c node (sh v)))] W (NarEnd n ls (upd c node (sh v)) fb g A cap W))
    (w : World) (h00 : 0 < w.heap.size) (hT : TabW w) (hF : FinAt w fb g A cap ls) :
    Calls Tryd.prog 99 #[.pointer (some ⟨fb, 0, none⟩), .agg (chA c), .int .i64 (node : Int), .int .i64 (v : Int)] w (NarEnd n ls (upd c node (sh v)) fb g A cap w) := by
  have hw := sh_wrap hv
  have hcn := chA_get c hn
  go_enter Tryd.func99, Tryd.ntmps99
  go_upto_region 2 with (simp only [ch_zero, chA_set])
  generalize hc' : upd c node (sh v) = c' at *
  generalize hW0 : (w.alloc _).alloc _ = W0
  have hB : Below w.heap.size w W0 := by
    rw [← hW0]
    refine Below.alloc (Below.alloc (Below.refl _ _) ?_ _) ?_ _ <;> simp
  have b5 : ChAt W0 108 w.heap.size c' := by rw [← hW0]; simp only [ChAt, at_alloc, size_alloc]; repeat (first | rfl | (split; · (first | rfl | omega)))
  have b8 : ChAt W0 108 (w.heap.size + 1) (fun _ => 0) := by rw [← hW0]; simp only [ChAt, at_alloc, size_alloc]; repeat (first | rfl | (split; · (first | rfl | omega)))
  have hF0 := hF.below hB
  have hlt := hF.lt
  have HX := Lib.hid (IH W0 (Nat.lt_of_lt_of_le h00 hB.size) (hT.up (hB.block 0 h00)) hF0)
  have HGN : Hid (0 < ls.length → g < w.heap.size) := Lib.hid fun h => (hF.at_ 0 h).2.1
  have HB := Lib.hid hB
  have HB8 := Lib.hid b8
  clear hW0 hw hcn
  go_wp2_with (first | (with_reducible refine wpList_load_ch rfl _ rfl w.heap.size c' rfl b5.range ?_) | (go_at_call 81; refine HX.out.mono ?_; rintro e w3 ⟨d, b, rfl, hk3, hF3, hs3, ht3, hf3⟩; have q8 : ChAt w3 108 (w.heap.size + 1) (fun _ => 0) := (hk3.block _ HB8.out.lt (fun h => by have := HGN.out h.2; omega)).trans HB8.out) | (with_reducible refine wpList_store_ch rfl _ _ rfl (w.heap.size + 1) d (fun _ => 0) rfl rfl q8 ?_))
  refine bodyPost_ret (results_cb rfl _ _ (w.heap.size + 1) d b rfl rfl (q8.setRow d).range) rfl ?_
  refine ⟨d, b, rfl, ?_, ?_, hs3, ht3, hf3⟩
  · have h1 : Keeps (fun i => (i = g ∧ 0 < ls.length) ∨ i = w.heap.size + 1) w (w3.setRow (w.heap.size + 1) (chA d)) :=
      ((Keeps.of_below' _ HB.out).trans hk3 fun _ _ h => .inl h).trans (keeps_setRow (H := fun i => (i = g ∧ 0 < ls.length) ∨ i = w.heap.size + 1) w3 (w.heap.size + 1) _ (.inr rfl)) fun _ _ h => h
    exact h1.mono fun i hi h => h.elim id (fun h => by omega)
  · exact hF3.up (by simp [World.setRow]) (setRow_other _ (by omega)) (fun h => setRow_other _ (by have := HGN.out h; omega))

theorem exa_end {w wA w4 : World} {ls : List Lk} {fb g : Nat} {A : Option Addr} {cap rb : Nat} (hk : Keeps (fun i => (i = g ∧ 0 < ls.length) ∨ w.heap.size ≤ i) w wA) (hrb : w.heap.size ≤ rb) (hk4 : Keeps (fun i => i = g ∧ 0 < ls.length) wA w4) (hF : FinAt w4 fb g A cap ls) (h1 : fb ≠ rb) (h2 : 0 < ls.length → g ≠ rb) (cs : Array Value) :
    Keeps (fun i => i = g ∧ 0 < ls.length) w (w4.setRow rb cs) ∧ FinAt (w4.setRow rb cs) fb g A cap ls := by
  refine ⟨?_, hF.up (by simp [World.setRow]) (setRow_other _ h1) (fun h => setRow_other _ (h2 h))⟩
  have h3 := (hk.trans hk4 fun _ _ h => .inl h).trans (keeps_setRow (H := fun i => (i = g ∧ 0 < ls.length) ∨ w.heap.size ≤ i) w4 rb cs (.inr hrb)) fun _ _ h => h
  exact h3.mono fun i hi h => h.elim id (fun h => by omega)
set_option maxRecDepth 100000 in
set_option maxHeartbeats 2000000 in
theorem examine_of (n : Nat) (hn : n ≤ 40) (ls : List Lk) (hls : LsOk n ls) (hll : ls.length ≤ 1000) (c : Choices) (hc : Small c) (fb g : Nat) (A : Option Addr) (cap : Nat) (hg0 : g ≠ 0)
    (IH : ∀ d, Small d → sizeC d ≤ sizeC c → ∀ W, 0 < W.heap.size → TabW W → FinAt W fb g A cap ls → Calls Tryd.prog 95 #[.pointer (some ⟨fb, 0, none⟩), .agg (chA d)] W (PosEnd n ls d fb g A cap W))
    (w : World) (h00 : 0 < w.heap.size) (hT : TabW w) (hF : FinAt w fb g A cap ls) :
    Calls Tryd.prog 81 #[.pointer (some ⟨fb, 0, none⟩), .agg (chA c)] w (NarEnd n ls c fb g A cap w) := by
  go_enter Tryd.func81, Tryd.ntmps81
  go_upto_region 1 with (simp only [ch_zero])
  generalize hW0 : (w.alloc _).alloc _ = W0
  have hB : Below w.heap.size w W0 := by
    rw [← hW0]
    refine Below.alloc (Below.alloc (Below.refl _ _) ?_ _) ?_ _ <;> simp
  have b3 : ChAt W0 108 w.heap.size c := by rw [← hW0]; simp only [ChAt, at_alloc, size_alloc]; repeat (first | rfl | (split; · (first | rfl | omega)))
  have b4 : ChAt W0 108 (w.heap.size + 1) (fun _ => 0) := by rw [← hW0]; simp only [ChAt, at_alloc, size_alloc]; repeat (first | rfl | (split; · (first | rfl | omega)))
  have hF0 := hF.below hB
  have hlt := hF.lt
  have HX := Lib.hid (narrow_any n hn ls hls hll c hc fb g A cap W0 (Nat.lt_of_lt_of_le h00 hB.size) (hT.up (hB.block 0 h00)) hg0 hF0)
  have HGN : Hid (0 < ls.length → g < w.heap.size) := Lib.hid fun h => (hF.at_ 0 h).2.1
  have HB := Lib.hid hB
  have HB3 := Lib.hid b3
  have HB4 := Lib.hid b4
  clear hW0
  go_upto_region 2 with (first | (with_reducible refine wpList_load_ch rfl _ rfl w.heap.size c rfl b3.range ?_) | (go_at_call 94; refine HX.out.mono ?_; rintro e w3 ⟨d, b, rfl, hk3, hF3, hs3, ht3, hf3⟩; have q3 : ChAt w3 108 w.heap.size c := (hk3.block _ HB3.out.lt (fun h => by have := HGN.out h.2; omega)).trans HB3.out) | (with_reducible refine wpList_store_ch rfl _ _ rfl w.heap.size d c rfl rfl q3 ?_))
  have hkA : Keeps (fun i => (i = g ∧ 0 < ls.length) ∨ w.heap.size ≤ i) w (w3.setRow w.heap.size (chA d)) :=
    ((Keeps.of_below' _ HB.out).trans hk3 fun _ _ h => .inl h).trans (keeps_setRow (H := fun i => (i = g ∧ 0 < ls.length) ∨ w.heap.size ≤ i) w3 w.heap.size _ (.inr (Nat.le_refl _))) fun _ _ h => h
  have a3 : ChAt (w3.setRow w.heap.size (chA d)) 108 w.heap.size d := q3.setRow d
  have a4 : ChAt (w3.setRow w.heap.size (chA d)) 108 (w.heap.size + 1) (fun _ => 0) := (setRow_other _ (by omega)).trans ((hk3.block _ HB4.out.lt (fun h => by have := HGN.out h.2; omega)).trans HB4.out)
  have aF : FinAt (w3.setRow w.heap.size (chA d)) fb g A cap ls := hF3.up (by simp [World.setRow]) (setRow_other _ (by omega)) (fun h => setRow_other _ (by have := HGN.out h; omega))
  have aT : TabW (w3.setRow w.heap.size (chA d)) := hT.up (hkA.block 0 h00 (fun h => h.elim (fun h => hg0 h.1.symm) (fun h => by omega)))
  have a0 : 0 < (w3.setRow w.heap.size (chA d)).heap.size := Nat.lt_of_lt_of_le h00 hkA.size
  generalize w3.setRow w.heap.size (chA d) = wA at *
  clear q3 hk3 hF3 b3 b4 hF0 hB
  have HA3 := Lib.hid a3
  have HA4 := Lib.hid a4
  have HAF := Lib.hid aF
  have HKA := Lib.hid hkA
  cases b
  · have HS5 : Hid (∀ cs, ChAt (wA.drew.setRow (w.heap.size + 1) cs) 108 w.heap.size d) := Lib.hid fun cs => (setRow_other cs (by omega)).trans HA3.out
    have HS4 := Lib.hid (show ChAt wA.drew 108 w.heap.size d from HA3.out)
    have HA4d := Lib.hid (show ChAt wA.drew 108 (w.heap.size + 1) (fun _ => 0) from HA4.out)
    have HRg := Lib.hid (HA4d.out.setRow d).range
    have HE := Lib.hid (exa_end (rb := w.heap.size + 1) HKA.out (by omega) (keeps_drew (fun i => i = g ∧ 0 < ls.length) wA) (show FinAt wA.drew fb g A cap ls from HAF.out.up (Nat.le_refl _) rfl (fun _ => rfl)) (by omega) (fun h => by have := HGN.out h; omega) (chA d))
    have HF3 := Lib.hid (hf3 rfl)
    clear ht3 hf3 hT hF hc HX
    refine wp_region_noPanic ?_
    refine wp_region_held_drew (S := (fun u : World => ChAt u 108 w.heap.size d)) (by kernel_rfl) HA3.out (fun hHeld => ?_)
    refine wpAnyH_take (i := 0) (v := .agg (chA d)) (oper_at (r := _) rfl) (by kernel_rfl) (by kernel_rfl) (by kernel_rfl) (fun _ _ _ h => h) (Or.inl ⟨by rfl, fun u hSw => exec_load_ch _ rfl w.heap.size d rfl (ChAt.range hSw)⟩) (by assumption) ?_
    try simp only [Act.put, List.setIfInBounds_toArray, List.set_cons_zero, List.set_cons_succ]
    refine wpAnyH_take (i := 1) (v := ?_) (oper_at (r := _) rfl) (by kernel_rfl) (by kernel_rfl) (by kernel_rfl) (fun _ _ _ h => h) (Or.inl ⟨by rfl, ?_⟩) (by assumption) ?_
    rotate_left
    · intro w hSw; try dsimp only at hSw
      go_simp
      try with_reducible rfl
    try simp only [Act.put, List.setIfInBounds_toArray, List.set_cons_zero, List.set_cons_succ]
    refine wpAnyH_take (i := 2) (v := ?_) (oper_at (r := _) rfl) (by kernel_rfl) (by kernel_rfl) (by kernel_rfl) (fun _ _ _ h => h) (Or.inl ⟨by rfl, ?_⟩) (by assumption) ?_
    rotate_left
    · intro w hSw; try dsimp only at hSw
      go_simp
      try with_reducible rfl
    try simp only [Act.put, List.setIfInBounds_toArray, List.set_cons_zero, List.set_cons_succ]
    refine wpAnyH_take (i := 3) (v := undef) (oper_at (r := _) rfl) (by kernel_rfl) (by kernel_rfl) (by kernel_rfl) (fun _ _ _ h => h) (Or.inr ⟨by rfl, rfl⟩) (by assumption) ?_
    try simp only [Act.put, List.setIfInBounds_toArray, List.set_cons_zero, List.set_cons_succ]
    refine wpAnyH_take (i := 4) (v := undef) (oper_at (r := _) rfl) (by kernel_rfl) (by kernel_rfl) (by kernel_rfl) (fun _ _ _ h => h) (Or.inr ⟨by rfl, rfl⟩) (by assumption) ?_
    try simp only [Act.put, List.setIfInBounds_toArray, List.set_cons_zero, List.set_cons_succ]
    refine wpAnyH_ready (rs := [5]) (by kernel_rfl) (by simp) ?_
    refine AllReadyH.cons (oper_at (r := _) rfl) (fun K hK => ?_) AllReadyH.nil
    rw [if_neg (by rw [show Region.wanted _ _ = false from rfl]; exact Bool.false_ne_true)]
    refine hK.out _ _ (by first | assumption | exact HA3.out | exact HS4.out | exact HS5.out _) (fun _ => ?_)
    clear hK K
    try simp only [Act.put, List.setIfInBounds_toArray, List.set_cons_zero, List.set_cons_succ]
    refine wpAnyH_take (i := 6) (v := ?_) (oper_at (r := _) rfl) (by kernel_rfl) (by kernel_rfl) (by kernel_rfl) (fun _ _ _ h => h) (Or.inl ⟨by rfl, ?_⟩) (by assumption) ?_
    rotate_left
    · intro w hSw; try dsimp only at hSw
      go_simp
      try with_reducible rfl
    try simp only [Act.put, List.setIfInBounds_toArray, List.set_cons_zero, List.set_cons_succ]
    refine wpAnyH_ready (rs := [7]) (by kernel_rfl) (by simp) ?_
    refine AllReadyH.cons (oper_at (r := _) rfl) (fun K hK => ?_) AllReadyH.nil
    rw [if_pos (by rfl)]
    refine op_store_ch _ _ rfl (w.heap.size + 1) d (fun _ => 0) rfl rfl HA4d.out ?_
    refine hK.out _ _ (by first | assumption | exact HA3.out | exact HS4.out | exact HS5.out _) (fun _ => ?_)
    clear hK K
    try simp only [Act.put]
    refine wpAnyH_take (i := 8) (v := ?_) (oper_at (r := _) rfl) (by kernel_rfl) (by kernel_rfl) (by kernel_rfl) (fun _ _ _ h => h) (Or.inl ⟨by rfl, ?_⟩) (by assumption) ?_
    rotate_left
    · intro w hSw; try dsimp only at hSw
      go_simp
      try with_reducible rfl
    try simp only [Act.put, List.setIfInBounds_toArray, List.set_cons_zero, List.set_cons_succ]
    refine wpAnyH_done (by kernel_rfl) ?_ _
    refine NoPanic.normal ?_
    go_wp2_with fail
    refine bodyPost_ret (results_cb rfl _ _ (w.heap.size + 1) d false rfl rfl HRg.out) rfl ?_
    exact ⟨d, false, rfl, HE.out.1, HE.out.2, hs3, (fun h => by cases h), fun _ => HF3.out⟩
  · have HP := Lib.hid (IH d hs3 (sum_le fun i => (ht3 rfl).2.2.1.le i) wA.drew a0 (aT.up rfl) (aF.up (Nat.le_refl _) rfl (fun _ => rfl)))
    have HT3 := Lib.hid (ht3 rfl)
    clear ht3 hf3 hT hF hc HX
    refine wp_region_noPanic ?_
    refine wp_region_held_drew (S := (fun u : World => ChAt u 108 w.heap.size d)) (by kernel_rfl) HA3.out (fun hHeld => ?_)
    refine wpAnyH_take (i := 0) (v := .agg (chA d)) (oper_at (r := _) rfl) (by kernel_rfl) (by kernel_rfl) (by kernel_rfl) (fun _ _ _ h => h) (Or.inl ⟨by rfl, fun u hSw => exec_load_ch _ rfl w.heap.size d rfl (ChAt.range hSw)⟩) (by assumption) ?_
    try simp only [Act.put, List.setIfInBounds_toArray, List.set_cons_zero, List.set_cons_succ]
    refine wpAnyH_take (i := 1) (v := ?_) (oper_at (r := _) rfl) (by kernel_rfl) (by kernel_rfl) (by kernel_rfl) (fun _ _ _ h => h) (Or.inl ⟨by rfl, ?_⟩) (by assumption) ?_
    rotate_left
    · intro w hSw; try dsimp only at hSw
      go_simp
      try with_reducible rfl
    try simp only [Act.put, List.setIfInBounds_toArray, List.set_cons_zero, List.set_cons_succ]
    refine wpAnyH_take (i := 2) (v := ?_) (oper_at (r := _) rfl) (by kernel_rfl) (by kernel_rfl) (by kernel_rfl) (fun _ _ _ h => h) (Or.inl ⟨by rfl, ?_⟩) (by assumption) ?_
    rotate_left
    · intro w hSw; try dsimp only at hSw
      go_simp
      try with_reducible rfl
    try simp only [Act.put, List.setIfInBounds_toArray, List.set_cons_zero, List.set_cons_succ]
    refine wpAnyH_take (i := 3) (v := ?_) (oper_at (r := _) rfl) (by kernel_rfl) (by kernel_rfl) (by kernel_rfl) (fun _ _ _ h => h) (Or.inl ⟨by rfl, ?_⟩) (by assumption) ?_
    rotate_left
    · intro w hSw; try dsimp only at hSw
      go_simp
      try with_reducible rfl
    try simp only [Act.put, List.setIfInBounds_toArray, List.set_cons_zero, List.set_cons_succ]
    refine wpAnyH_take (i := 4) (v := .agg (chA d)) (oper_at (r := _) rfl) (by kernel_rfl) (by kernel_rfl) (by kernel_rfl) (fun _ _ _ h => h) (Or.inl ⟨by rfl, fun u hSw => exec_load_ch _ rfl w.heap.size d rfl (ChAt.range hSw)⟩) (by assumption) ?_
    try simp only [Act.put, List.setIfInBounds_toArray, List.set_cons_zero, List.set_cons_succ]
    refine wpAnyH_ready (rs := [5]) (by kernel_rfl) (by simp) ?_
    refine AllReadyH.cons (oper_at (r := _) rfl) (fun K hK => ?_) AllReadyH.nil
    go_simp
    (refine HP.out.mono ?_); rintro e w4 ⟨b2, rfl, hk4, hF4, hf4⟩; have HK4 := Lib.hid hk4; have HF4 := Lib.hid hF4; have HN4 := Lib.hid hf4; have q4 : ChAt w4 108 (w.heap.size + 1) (fun _ => 0) := (hk4.block _ HA4.out.lt (fun h => by have := HGN.out h.2; omega)).trans HA4.out; have HQ4 := Lib.hid q4; have HS4 : Hid (ChAt w4 108 w.heap.size d) := Lib.hid ((hk4.block _ HA3.out.lt (fun h => by have := HGN.out h.2; omega)).trans HA3.out); have HS5 : Hid (∀ cs, ChAt (w4.setRow (w.heap.size + 1) cs) 108 w.heap.size d) := Lib.hid fun cs => (setRow_other cs (by omega)).trans HS4.out; clear hk4 hF4 hf4 q4
    go_wp2_with fail
    refine hK.out _ _ (by first | assumption | exact HA3.out | exact HS4.out | exact HS5.out _) (fun _ => ?_)
    clear hK K
    try simp only [Act.put, List.setIfInBounds_toArray, List.set_cons_zero, List.set_cons_succ]
    refine wpAnyH_take (i := 6) (v := ?_) (oper_at (r := _) rfl) (by kernel_rfl) (by kernel_rfl) (by kernel_rfl) (fun _ _ _ h => h) (Or.inl ⟨by rfl, ?_⟩) (by assumption) ?_
    rotate_left
    · intro w hSw; try dsimp only at hSw
      go_simp
      try with_reducible rfl
    try simp only [Act.put, List.setIfInBounds_toArray, List.set_cons_zero, List.set_cons_succ]
    refine wpAnyH_ready (rs := [7]) (by kernel_rfl) (by simp) ?_
    refine AllReadyH.cons (oper_at (r := _) rfl) (fun K hK => ?_) AllReadyH.nil
    rw [if_pos (by rfl)]
    refine op_store_ch _ _ rfl (w.heap.size + 1) d (fun _ => 0) rfl rfl HQ4.out ?_
    refine hK.out _ _ (by first | assumption | exact HA3.out | exact HS4.out | exact HS5.out _) (fun _ => ?_)
    clear hK K
    try simp only [Act.put]
    refine wpAnyH_take (i := 8) (v := ?_) (oper_at (r := _) rfl) (by kernel_rfl) (by kernel_rfl) (by kernel_rfl) (fun _ _ _ h => h) (Or.inl ⟨by rfl, ?_⟩) (by assumption) ?_
    rotate_left
    · intro w hSw; try dsimp only at hSw
      go_simp
      try with_reducible rfl
    try simp only [Act.put, List.setIfInBounds_toArray, List.set_cons_zero, List.set_cons_succ]
    refine wpAnyH_done (by kernel_rfl) ?_ _
    refine NoPanic.normal ?_
    have HE := Lib.hid (exa_end (rb := w.heap.size + 1) HKA.out (by omega) ((keeps_drew (fun i => i = g ∧ 0 < ls.length) wA).trans HK4.out fun _ _ h => h) HF4.out (by omega) (fun h => by have := HGN.out h; omega) (chA d))
    have HRg := Lib.hid (HQ4.out.setRow d).range
    have HBB : Hid ((b2 = true → (∀ l, Sol n ls c l ↔ Sol n ls d l) ∧ Stable ls d ∧ Sub d c ∧ ∀ i, c i ≠ 0 → d i ≠ 0) ∧ (b2 = false → ∀ l, ¬ Sol n ls c l)) := Lib.hid ⟨fun _ => HT3.out, fun h l hl => HN4.out h l ((HT3.out.1 l).1 hl)⟩
    go_wp2_with fail
    refine bodyPost_ret (results_cb rfl _ _ (w.heap.size + 1) d b2 rfl rfl HRg.out) rfl ?_
    exact ⟨d, b2, rfl, HE.out.1, HE.out.2, hs3, HBB.out.1, HBB.out.2⟩

/-- all of it, by the size of the choices -/
theorem examine_all (n : Nat) (hn : n ≤ 40) (ls : List Lk) (hls : LsOk n ls) (hll : ls.length ≤ 1000) (fb g : Nat) (A : Option Addr) (cap : Nat) (hg0 : g ≠ 0) :
    ∀ (k : Nat) (c : Choices), sizeC c < k → Small c → ∀ W, 0 < W.heap.size → TabW W → FinAt W fb g A cap ls → Calls Tryd.prog 81 #[.pointer (some ⟨fb, 0, none⟩), .agg (chA c)] W (NarEnd n ls c fb g A cap W) := by
  intro k
  induction k with
  | zero => intro c h; omega
  | succ k ih =>
    intro c hk hc W h00 hT hF
    refine examine_of n hn ls hls hll c hc fb g A cap hg0 (fun d hd hle W2 h2 hT2 hF2 => ?_) W h00 hT hF
    refine possible_of n hn ls hls hll d hd fb g A cap hg0 (fun node v hnode hv ho W3 h3 hT3 hF3 => ?_) W2 h2 hT2 hF2
    obtain ⟨_, hlt⟩ := settle_size hd (by omega) hv ho
    have hv40 := bits40 (hd node) hv
    exact settle_of n ls d fb g A cap hg0 node v (by omega) hv40 (fun W4 h4 hT4 hF4 => ih (upd d node (sh v)) (by omega) (small_upd hd (sh_lt hv40) node) W4 h4 hT4 hF4) W3 h3 hT3 hF3
theorem examine_any (n : Nat) (hn : n ≤ 40) (ls : List Lk) (hls : LsOk n ls) (hll : ls.length ≤ 1000) (c : Choices) (hc : Small c) (fb g : Nat) (A : Option Addr) (cap : Nat) (hg0 : g ≠ 0) (W : World) (h00 : 0 < W.heap.size) (hT : TabW W) (hF : FinAt W fb g A cap ls) :
    Calls Tryd.prog 81 #[.pointer (some ⟨fb, 0, none⟩), .agg (chA c)] W (NarEnd n ls c fb g A cap W) :=
  examine_all n hn ls hls hll fb g A cap hg0 _ c (Nat.lt_succ_self _) hc W h00 hT hF
theorem settle_any (n : Nat) (hn : n ≤ 40) (ls : List Lk) (hls : LsOk n ls) (hll : ls.length ≤ 1000) (c : Choices) (hc : Small c) (fb g : Nat) (A : Option Addr) (cap : Nat) (hg0 : g ≠ 0) (node v : Nat) (hnode : node < 40) (hv : v < 40) (W : World) (h00 : 0 < W.heap.size) (hT : TabW W) (hF : FinAt W fb g A cap ls) :
    Calls Tryd.prog 99 #[.pointer (some ⟨fb, 0, none⟩), .agg (chA c), .int .i64 (node : Int), .int .i64 (v : Int)] W (NarEnd n ls (upd c node (sh v)) fb g A cap W) :=
  settle_of n ls c fb g A cap hg0 node v hnode hv (fun W4 h4 hT4 hF4 => examine_any n hn ls hls hll _ (small_upd hc (sh_lt hv) node) fb g A cap hg0 W4 h4 hT4 hF4) W h00 hT hF

end Go.Proofs.YtaeelanbkdkppaaDoor

