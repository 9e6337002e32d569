/-
  Graphs: AddEdge, of the program and the reference.
-/
import Derived.Test.YtiafmhdicgmfaaaGAddN
namespace Go.Proofs.Ytiafmhdicgmfaaa
open Go.RowKit

/-- the box w.size is read, the variable behind it is written -/
abbrev S1E (w : World) (u v : Value) (x : Ed) (t' t : TypeId) (W : World) : Prop :=
  (W.cell? ⟨w.heap.size, 0, none⟩ = some u ∧ W.cell? ⟨w.heap.size, 1, none⟩ = some v) ∧ Sto (w.heap.size + 2) W ∧ BoxIs w.heap.size u v t' W ∧ Blk (w.heap.size + 2) t W ∧ Below w.heap.size w W ∧ (W.cell? ⟨w.heap.size + 1, 0, none⟩ = some (.int .i64 x.ty) ∧ W.cell? ⟨w.heap.size + 1, 1, none⟩ = some (.int .i64 x.fr) ∧ W.cell? ⟨w.heap.size + 1, 2, none⟩ = some (.int .i64 x.to)) ∧ EdIs (w.heap.size + 1) x W
theorem S1E.mk {w W : World} {u v : Value} {x : Ed} {t' t : TypeId} (h1 : BoxIs w.heap.size u v t' W) (h2 : Blk (w.heap.size + 2) t W) (h3 : Below w.heap.size w W) (h4 : EdIs (w.heap.size + 1) x W) : S1E w u v x t' t W := ⟨h1.cells, h2.sto, h1, h2, h3, cell3 h4, h4⟩
theorem S1E.up {w W W' : World} {u v : Value} {x : Ed} {t' t : TypeId} (h : S1E w u v x t' t W) (hb : Below W.heap.size W W') : S1E w u v x t' t W' := S1E.mk (h.2.2.1.up hb) (h.2.2.2.1.up hb) (h.2.2.2.2.1.trans (hb.mono h.2.2.2.2.1.size)) (heap_up hb h.2.2.2.2.2.2)
theorem S1E.grow {w W W' : World} {u v : Value} {x : Ed} {t' t t0 : TypeId} {base : Nat} (h : S1E w u v x t' t W) (ht : t' ≠ t0) (ht2 : t ≠ t0) (hb : w.heap.size + 2 ≤ base) (hg : Grow t0 base W W') : S1E w u v x t' t W' := S1E.mk (h.2.2.1.grow ht hg) (h.2.2.2.1.grow ht2 hg) (h.2.2.2.2.1.trans (hg.1.mono (by omega))) ((hg.1.block (w.heap.size + 1) (by omega)).trans h.2.2.2.2.2.2)
theorem S1E.store {w W : World} {u v : Value} {x : Ed} {t' t : TypeId} (h : S1E w u v x t' t W) (a b : Value) : S1E w u v x t' t ((W.setCell ⟨w.heap.size + 2, 0, none⟩ a).setCell ⟨w.heap.size + 2, 1, none⟩ b) :=
  S1E.mk ((h.2.2.1.set (by simp) _).set (by simp) _) (h.2.2.2.1.store a b) ((h.2.2.2.2.1.setCell (p := ⟨w.heap.size + 2, 0, none⟩) (Nat.le_add_right _ _) a).setCell (p := ⟨w.heap.size + 2, 1, none⟩) (Nat.le_add_right _ _) b) ((Below.heap_setCell _ _ _ _ (by simp)).trans ((Below.heap_setCell _ _ _ _ (by simp)).trans h.2.2.2.2.2.2))
theorem S1E.start (w : World) (u v a b : Value) (x : Ed) (t' t : TypeId) : S1E w u v x t' t (((w.alloc (.cells #[u, v] t' (0, 0))).alloc (.cells #[.int .i64 x.ty, .int .i64 x.fr, .int .i64 x.to] 36 (0, 0))).alloc (.cells #[a, b] t (0, 0))) := by
  have h0 := heap_two w (.cells #[u, v] t' (0, 0)) (.cells #[.int .i64 x.ty, .int .i64 x.fr, .int .i64 x.to] 36 (0, 0))
  have h1 := heap_two' w (.cells #[u, v] t' (0, 0)) (.cells #[.int .i64 x.ty, .int .i64 x.fr, .int .i64 x.to] 36 (0, 0))
  have h2 := heap_alloc_new ((w.alloc (.cells #[u, v] t' (0, 0))).alloc (.cells #[.int .i64 x.ty, .int .i64 x.fr, .int .i64 x.to] 36 (0, 0))) (.cells #[a, b] t (0, 0))
  exact S1E.mk (heap_up (below_a _ _) h0) ⟨a, b, by simpa using h2⟩ ((((Below.refl _ _).alloc (Nat.le_refl _) _).alloc (by simp) _).alloc (by simp; omega) _) (heap_up (below_a _ _) h1)
theorem S1E.lt {w W : World} {u v : Value} {x : Ed} {t' t : TypeId} (h : S1E w u v x t' t W) : w.heap.size < W.heap.size ∧ w.heap.size + 1 < W.heap.size ∧ w.heap.size + 2 < W.heap.size := by
  have := heap_lt h.2.2.2.1.choose_spec.choose_spec
  omega
theorem S1E.res {w W : World} {u v : Value} {x : Ed} {t' t : TypeId} (h : S1E w u v x t' t W) (a b : Value) : ((W.setCell ⟨w.heap.size + 2, 0, none⟩ a).setCell ⟨w.heap.size + 2, 1, none⟩ b).cell? ⟨w.heap.size + 2, 0, none⟩ = some a ∧ ((W.setCell ⟨w.heap.size + 2, 0, none⟩ a).setCell ⟨w.heap.size + 2, 1, none⟩ b).cell? ⟨w.heap.size + 2, 1, none⟩ = some b := cell2 (store2 h.2.2.2.1 a b)

theorem S1E.res0 {w W : World} {u v : Value} {x : Ed} {t' t : TypeId} (h : S1E w u v x t' t W) (a : Value) : (W.setCell ⟨w.heap.size + 2, 0, none⟩ a).cell? ⟨w.heap.size + 2, 0, none⟩ = some a := by
  obtain ⟨_, _, hh⟩ := h.2.2.2.1
  exact (cell2 (heap_setCell_same W _ 0 _ _ a hh)).1

theorem S1E.set {w W : World} {u v : Value} {x : Ed} {t' t : TypeId} (h : S1E w u v x t' t W) {p : Addr} (hp : w.heap.size + 3 ≤ p.block) (y : Value) : S1E w u v x t' t (W.setCell p y) :=
  S1E.mk (h.2.2.1.set (by omega) y) (h.2.2.2.1.set (by omega) y) (h.2.2.2.2.1.setCell (by omega) y) ((Below.heap_setCell W p y _ (by omega)).trans h.2.2.2.2.2.2)
theorem isI_resY {w W : World} {v : Value} {xs : List Int} (h : OwnZ EInt 3 W (w.heap.size + 3) v xs) (a b : Value) : IsI ((W.setCell ⟨w.heap.size + 2, 0, none⟩ a).setCell ⟨w.heap.size + 2, 1, none⟩ b) v xs :=
  ((h.stored (a := ⟨w.heap.size + 2, 0, none⟩) (Nat.lt_succ_self _) a).stored (a := ⟨w.heap.size + 2, 1, none⟩) (Nat.lt_succ_self _) b).reads_cap
theorem isE_resY {w W : World} {v : Value} {xs : List Ed} (h : OwnZ EEd 36 W (w.heap.size + 3) v xs) (a b : Value) : IsE ((W.setCell ⟨w.heap.size + 2, 0, none⟩ a).setCell ⟨w.heap.size + 2, 1, none⟩ b) v xs :=
  ((h.stored (a := ⟨w.heap.size + 2, 0, none⟩) (Nat.lt_succ_self _) a).stored (a := ⟨w.heap.size + 2, 1, none⟩) (Nat.lt_succ_self _) b).reads_cap
theorem isI_rex {w W : World} {v : Value} {xs : List Int} (h : OwnI W (w.heap.size + 3) v xs) (a b : Value) : IsI ((W.setCell ⟨w.heap.size + 2, 0, none⟩ a).setCell ⟨w.heap.size + 2, 1, none⟩ b) v xs :=
  isI_own (base := w.heap.size + 3) (ownsRow_setCell_below (ownsRow_setCell_below h (a := ⟨w.heap.size + 2, 0, none⟩) (Nat.lt_succ_self _) a) (a := ⟨w.heap.size + 2, 1, none⟩) (Nat.lt_succ_self _) b)
theorem isE_rex {w W : World} {v : Value} {xs : List Ed} (h : OwnEd W (w.heap.size + 3) v xs) (a b : Value) : IsE ((W.setCell ⟨w.heap.size + 2, 0, none⟩ a).setCell ⟨w.heap.size + 2, 1, none⟩ b) v xs :=
  isE_own (base := w.heap.size + 3) (ownsRow_setCell_below (ownsRow_setCell_below h (a := ⟨w.heap.size + 2, 0, none⟩) (Nat.lt_succ_self _) a) (a := ⟨w.heap.size + 2, 1, none⟩) (Nat.lt_succ_self _) b)


def AddEC (f : FuncId) : Prop := ∀ (g : Gr) (x : Ed) (An : Option Addr) (cn : Nat) (Ae : Option Addr) (ce : Nat) (w : World), GrAt w An cn Ae ce g →
  Calls Try.prog f #[gval An g.ns.length cn Ae g.es.length ce, edv x] w fun e w' => (∃ v, e = .returned (.tuple #[v, .int .i64 (addEI g x : Nat), .int .i64 (addEE g x : Nat)]) ∧ IsG w' v (addEG g x)) ∧ Below w.heap.size w w'

theorem addE_zero {g : Gr} {x : Ed} (h : addEE g x = 0) : validE g = 0 ∧ g.ns.length ≤ 40 ∧ g.es.length ≤ 80 := by
  unfold addEE at h
  split at h
  · omega
  · have := valid_zero (g := g) (by omega)
    exact ⟨by omega, this.1, this.2.1⟩

set_option maxRecDepth 100000 in
set_option maxHeartbeats 4000000 in
theorem addEP : AddEC 19 := by
  intro g x An cn Ae ce w hT
  have hs1 := S1E.start w (.slice An g.ns.length cn) (.slice Ae g.es.length ce) (.slice none 0 0) (.slice none 0 0) x 25 25
  have HC := Lib.hid (checkEdge_any g x An cn Ae ce _ (hT.up hs1.2.2.2.2.1))
  have HT := Lib.hid hT
  have HU := Lib.hid (fun W W' h hb => S1E.up (w := w) (u := .slice An g.ns.length cn) (v := .slice Ae g.es.length ce) (x := x) (t' := 25) (t := 25) (W := W) (W' := W') h hb)
  have HST := Lib.hid (fun W h a b => S1E.store (w := w) (u := .slice An g.ns.length cn) (v := .slice Ae g.es.length ce) (x := x) (t' := 25) (t := 25) (W := W) h a b)
  have HZ := Lib.hid (fun h => addE_zero (g := g) (x := x) h)
  have HI : Hid (addEI g x = if addEE g x = 0 then g.es.length else 0) := Lib.hid rfl
  have HG : Hid (addEG g x = if addEE g x = 0 then ⟨g.ns, g.es ++ [x]⟩ else noG) := Lib.hid rfl
  have HS1 := Lib.hid hs1
  clear hT hs1
  generalize addEI g x = ri at HI ⊢
  generalize addEG g x = rg at HG ⊢
  generalize addEE g x = R at HC HZ HI HG ⊢
  go_enter Try.func19, Try.ntmps19
  go_wp2_with fail
  refine HC.out.mono ?_
  rintro e w1 ⟨rfl, hb1⟩
  have hq1 := HU.out _ _ HS1.out hb1
  have HQ1 := Lib.hid hq1
  clear hb1 hq1
  obtain ⟨⟨c0, c1⟩, ⟨⟨c2, c3⟩, f2, f3⟩, _⟩ := HQ1.out
  obtain ⟨z0, z1⟩ := S1E.lt HQ1.out
  by_cases hR : R = 0
  case neg =>
    have HI2 := Lib.hid (show ri = 0 by rw [HI.out, if_neg hR])
    have HG2 := Lib.hid (show rg = noG by rw [HG.out, if_neg hR])
    have t1 : ((R : Int) != 0) = true := by simp; omega
    clear hR
    go_wp2_with fail
    obtain ⟨r0, r1⟩ := S1E.res HQ1.out (.slice none 0 0) (.slice none 0 0)
    refine bodyPost_ret (v := .tuple #[gval none 0 0 none 0 0, .int .i64 0, .int .i64 (R : Nat)]) (by simp [results, Try.results19, go_sem, r0, r1]) rfl ?_
    exact ⟨⟨_, by rw [HI2.out]; rfl, by rw [HG2.out]; exact isG_nil _⟩, (HST.out _ HQ1.out _ _).2.2.2.2.1⟩
  subst hR
  obtain ⟨_, l1, l2⟩ := HZ.out rfl
  have HI2 := Lib.hid (show ri = g.es.length by rw [HI.out, if_pos rfl])
  have HG2 := Lib.hid (show rg = ⟨g.ns, g.es ++ [x]⟩ by rw [HG.out, if_pos rfl])
  have HN := Lib.hid (fun W (h : Below w.heap.size w W) => Reads.below HT.out.ns h)
  have HE := Lib.hid (fun W (h : Below w.heap.size w W) => Reads.below HT.out.es h)
  have hcn := HT.out.ce.1
  have HSD := Lib.hid (HU.out _ _ HQ1.out (below_d _))
  have HLE : Hid ((g.es ++ [x]).length = g.es.length + 1) := Lib.hid (by simp)
  clear HC HZ HI HG HT
  obtain ⟨z2, z3, z4⟩ := S1E.lt HQ1.out
  go_wp2_with fail
  go_region_held3 (S1E w (.slice An g.ns.length cn) (.slice Ae g.es.length ce) x 25 25)
    (first | assumption | exact HSD.out | exact HU.out _ _ (by first | assumption | exact HSD.out | exact HQ1.out) (by first | exact below_a _ _ | exact below_ad _ _ | exact below_d _))
    ((first
      | (with_reducible refine (clipE_any Ae g.es.length ce _ hcn).mono ?_; rintro e w' ⟨rfl, rfl⟩)
      | (refine step_append_clip (E := EEd) (by rfl) _ _ 23 36 (by rfl) Try.underlying23 infoEd rfl (by decide) (by decide) Ae g.es.length w.heap.size g.es (by rfl) rfl (HE.out _ ((show S1E w (.slice An g.ns.length cn) (.slice Ae g.es.length ce) x 25 25 _ by assumption).2.2.2.2.1)) ⟨_, 0, none⟩ 1 x (by rfl) (new_ed (heap_alloc_new _ _)) (by omega) ?_; intro v2 w2 ho2 hg2; obtain ⟨ao, cap, rfl⟩ := OwnE.slice ho2; have hq2 := HU.out _ _ (by assumption) (below_g hg2))))
  all_goals
    have hzz := (S1E.lt HQ1.out).2.2
    have HO2 := Lib.hid (ho2.mono (base' := w.heap.size + 3) (by first | (simp; omega) | omega))
    have HQ2 := Lib.hid hq2
    have HE2 := Lib.hid (fun W (h : S1E w (.slice An g.ns.length cn) (.slice Ae g.es.length ce) x 25 25 W) => cloneI_any g.ns An w.heap.size cn W (by omega) (HN.out W h.2.2.2.2.1))
    clear ho2 hg2 hq2 c0 c1 c2 c3 f2 f3 z0 z1 z2 z3 z4 hzz
    go_wp2_with fail
    go_region_held3 (S1E w (.slice An g.ns.length cn) (.slice Ae g.es.length ce) x 25 25)
      (first | assumption | exact HQ2.out | exact HU.out _ _ HQ2.out (below_d _) | exact HU.out _ _ (by assumption) (by first | exact below_a _ _ | exact below_ad _ _ | exact below_d _) | exact HST.out _ (by first | assumption | exact HQ2.out) _ _)
      ((with_reducible refine (HE2.out _ (by first | assumption | exact HQ2.out | exact HU.out _ _ HQ2.out (below_d _))).mono ?_; rintro e w3 ⟨v3, rfl, ho3, hb3⟩; have hq3 := HU.out _ _ (by first | assumption | exact HQ2.out | exact HU.out _ _ HQ2.out (below_d _)) hb3; obtain ⟨ao3, cap3, rfl⟩ := OwnE.slice ho3))
    all_goals
      have hz2 := (S1E.lt HQ2.out).2.2
      have ho := (HO2.out.below ((below_d _).trans (hb3.mono (Nat.le_refl _))) (Nat.le_refl _))
      rw [HLE.out] at ho
      have HO4 := Lib.hid (isE_rex ho (.slice ao3 g.ns.length cap3) (.slice ao (g.es.length + 1) cap))
      have HO5 := Lib.hid (isI_rex (ho3.mono (base' := w.heap.size + 3) (by first | (simp; omega) | omega)) (.slice ao3 g.ns.length cap3) (.slice ao (g.es.length + 1) cap))
      have HQ3 := Lib.hid hq3
      obtain ⟨r0, r1⟩ := S1E.res HQ3.out (.slice ao3 g.ns.length cap3) (.slice ao (g.es.length + 1) cap)
      clear ho ho3 hb3 hq3
      go_wp2_with fail
      refine bodyPost_ret (v := .tuple #[gval ao3 g.ns.length cap3 ao (g.es.length + 1) cap, .int .i64 (g.es.length : Nat), .int .i64 0]) (by simp [results, Try.results19, go_sem, r0, r1]) rfl ?_
      exact ⟨⟨_, by rw [HI2.out]; rfl, by rw [HG2.out]; exact isG_of (g := ⟨g.ns, g.es ++ [x]⟩) HO5.out HO4.out⟩, (HST.out _ HQ3.out _ _).2.2.2.2.1⟩

set_option maxRecDepth 100000 in
set_option maxHeartbeats 4000000 in
theorem addER : AddEC 20 := by
  intro g x An cn Ae ce w hT
  have hs1 := S1E.start w (.slice An g.ns.length cn) (.slice Ae g.es.length ce) (.slice none 0 0) (.slice none 0 0) x 25 25
  have HC := Lib.hid (validR_any g An cn Ae ce _ (hT.up hs1.2.2.2.2.1))
  have HT := Lib.hid hT
  have HU := Lib.hid (fun W W' h hb => S1E.up (w := w) (u := .slice An g.ns.length cn) (v := .slice Ae g.es.length ce) (x := x) (t' := 25) (t := 25) (W := W) (W' := W') h hb)
  have HST := Lib.hid (fun W h a b => S1E.store (w := w) (u := .slice An g.ns.length cn) (v := .slice Ae g.es.length ce) (x := x) (t' := 25) (t := 25) (W := W) h a b)
  have HKI := Lib.hid (fun u => right_any x g.ns.length u)
  have HI : Hid (addEI g x = if addEE g x = 0 then g.es.length else 0) := Lib.hid rfl
  have HG : Hid (addEG g x = if addEE g x = 0 then ⟨g.ns, g.es ++ [x]⟩ else noG) := Lib.hid rfl
  have HX : Hid (addEE g x = if validE g ≠ 0 then validE g else if edB x g.ns.length = false then 6 else if g.es.length = 80 then 3 else 0) := Lib.hid rfl
  have HZ := Lib.hid (fun e => valid_zero (g := g) e)
  have HS1 := Lib.hid hs1
  clear hT hs1
  generalize addEI g x = ri at HI ⊢
  generalize addEG g x = rg at HG ⊢
  generalize addEE g x = R at HX HI HG ⊢
  generalize validE g = v at HC HX HZ
  generalize edB x g.ns.length = z at HKI HX
  go_enter Try.func20, Try.ntmps20
  go_wp2_with fail
  refine HC.out.mono ?_
  rintro e w1 ⟨rfl, hb1⟩
  have hq1 := HU.out _ _ HS1.out hb1
  have HQ1 := Lib.hid hq1
  clear hb1 hq1
  obtain ⟨⟨c0, c1⟩, ⟨⟨c2, c3⟩, f2, f3⟩, _⟩ := HQ1.out
  obtain ⟨z0, z1⟩ := S1E.lt HQ1.out
  have HERR : Hid (R ≠ 0 → ri = 0 ∧ rg = noG) := Lib.hid fun h => ⟨by rw [HI.out, if_neg h], by rw [HG.out, if_neg h]⟩
  obtain ⟨r0, r1⟩ := S1E.res HQ1.out (.slice none 0 0) (.slice none 0 0)
  have HR01 := Lib.hid (And.intro r0 r1)
  clear r0 r1
  by_cases hv : v = 0
  case neg =>
    obtain ⟨hi, hg⟩ := HERR.out (by rw [HX.out, if_pos hv]; exact hv)
    have HI2 := Lib.hid hi
    have HG2 := Lib.hid hg
    have HR := Lib.hid (show R = v by rw [HX.out, if_pos hv])
    have t1 : ((v : Int) != 0) = true := by simp; omega
    clear hv hi hg
    go_wp2_with fail
    obtain ⟨r0, r1⟩ := HR01.out
    refine bodyPost_ret (v := .tuple #[gval none 0 0 none 0 0, .int .i64 0, .int .i64 (v : Nat)]) (by simp [results, Try.results20, go_sem, r0, r1]) rfl ?_
    exact ⟨⟨_, by rw [HI2.out, HR.out]; rfl, by rw [HG2.out]; exact isG_nil _⟩, (HST.out _ HQ1.out _ _).2.2.2.2.1⟩
  subst hv
  have HX2 := Lib.hid (show R = if z = false then 6 else if g.es.length = 80 then 3 else 0 by rw [HX.out, if_neg (fun h => h rfl)])
  obtain ⟨l1, l2, _⟩ := HZ.out rfl
  clear HX HC HZ
  go_wp2_with fail
  refine (HKI.out _).mono ?_
  rintro e w1' ⟨rfl, hb1'⟩
  have hq1' := HU.out _ _ HQ1.out hb1'
  clear HQ1 HR01 hb1' c0 c1 c2 c3 f2 f3 z0 z1
  have HQ1 := Lib.hid hq1'
  clear hq1'
  obtain ⟨⟨c0, c1⟩, ⟨⟨c2, c3⟩, f2, f3⟩, _⟩ := HQ1.out
  obtain ⟨z0, z1⟩ := S1E.lt HQ1.out
  obtain ⟨r0, r1⟩ := S1E.res HQ1.out (.slice none 0 0) (.slice none 0 0)
  have HR01 := Lib.hid (And.intro r0 r1)
  clear r0 r1
  cases z
  case false =>
    have h6 := (show R = 6 by rw [HX2.out, if_pos rfl])
    obtain ⟨hi, hg⟩ := HERR.out (by omega)
    have HI2 := Lib.hid hi
    have HG2 := Lib.hid hg
    have HR := Lib.hid h6
    clear h6 hi hg
    go_wp2_with fail
    obtain ⟨r0, r1⟩ := HR01.out
    refine bodyPost_ret (v := .tuple #[gval none 0 0 none 0 0, .int .i64 0, .int .i64 6]) (by simp [results, Try.results20, go_sem, r0, r1]) rfl ?_
    exact ⟨⟨_, by rw [HI2.out, HR.out]; rfl, by rw [HG2.out]; exact isG_nil _⟩, (HST.out _ HQ1.out _ _).2.2.2.2.1⟩
  by_cases h40 : g.es.length = 80
  case pos =>
    have h6 := (show R = 3 by rw [HX2.out, if_neg (by simp), if_pos h40])
    obtain ⟨hi, hg⟩ := HERR.out (by omega)
    have HI2 := Lib.hid hi
    have HG2 := Lib.hid hg
    have HR := Lib.hid h6
    have t1 : ((g.es.length : Int) == 80) = true := by simp; omega
    clear h6 hi hg h40
    go_wp2_with fail
    obtain ⟨r0, r1⟩ := HR01.out
    refine bodyPost_ret (v := .tuple #[gval none 0 0 none 0 0, .int .i64 0, .int .i64 3]) (by simp [results, Try.results20, go_sem, r0, r1]) rfl ?_
    exact ⟨⟨_, by rw [HI2.out, HR.out]; rfl, by rw [HG2.out]; exact isG_nil _⟩, (HST.out _ HQ1.out _ _).2.2.2.2.1⟩
  have h6 := (show R = 0 by rw [HX2.out, if_neg (by simp), if_neg h40])
  have HR := Lib.hid h6
  have HI2 := Lib.hid (show ri = g.es.length by rw [HI.out, if_pos h6])
  have HG2 := Lib.hid (show rg = ⟨g.ns, g.es ++ [x]⟩ by rw [HG.out, if_pos h6])
  have t1 : ((g.es.length : Int) == 80) = false := ne_beq (by omega)
  have HCP := Lib.hid (copied_any g An cn Ae ce w1' (by omega) (HT.out.up (HQ1.out.2.2.2.2.1)))
  clear h6 h40 HI HG HT HKI HX2 HERR HR01
  go_wp2_with fail
  refine HCP.out.mono ?_
  rintro e w2 ⟨⟨v1, u1, rfl, ho1, ho2⟩, hb2⟩
  obtain ⟨a1, c1', rfl⟩ := ho1.slice
  obtain ⟨a2, c2', rfl⟩ := ho2.slice
  have HQ2 := Lib.hid (HU.out _ _ HQ1.out hb2)
  have HO1 := Lib.hid (ho1.mono (base' := w.heap.size + 3) (by omega))
  have HO2 := Lib.hid (ho2.mono (base' := w.heap.size + 3) (by omega))
  clear ho1 ho2 hb2 c0 c1 c2 c3 f2 f3 z0 z1 t1 HCP
  obtain ⟨⟨c0, c1⟩, ⟨⟨c2, c3⟩, f2, f3⟩, _⟩ := HQ2.out
  obtain ⟨z0, z1⟩ := S1E.lt HQ2.out
  have HB8 : Hid (BoxIs w2.heap.size (.slice a1 g.ns.length c1') (.slice a2 g.es.length c2') 25 (w2.alloc (.cells #[.slice a1 g.ns.length c1', .slice a2 g.es.length c2'] 25 (0, 0)))) := Lib.hid (heap_alloc_new _ _)
  obtain ⟨b0, b1⟩ := BoxIs.cells HB8.out
  go_wp2_with (at_builtin; refine wpList_append_Z (E := EEd) rfl _ _ 23 36 rfl Try.underlying23 infoEd rfl (by decide) (by decide) (w.heap.size + 3) (.slice a2 g.es.length c2') g.es rfl ?y1 (some ⟨w2.heap.size + 1, 0, none⟩) 1 1 (w2.heap.size + 2) [x] rfl rfl ?y2 ?y3 ?y4 ?y5 ?_)
  case y1 => exact HO2.out.below ((below_a _ _).trans ((below_a _ _).mono (by simp))) (Nat.le_refl _)
  case y2 => exact reads_one (new_ed (heap_two' _ _ _)) (by simp)
  case y3 => omega
  case y4 => omega
  case y5 => simp; omega
  intro v3 w3 ho3 hg3
  obtain ⟨a3, c3', rfl⟩ := ho3.slice
  have HL : Hid ((g.es ++ [x]).length = g.es.length + 1) := Lib.hid (by simp)
  have hg3' := (Grow.of (t := 36) ((below_a w2 (.cells #[.slice a1 g.ns.length c1', .slice a2 g.es.length c2'] 25 (0, 0))).trans ((below_a _ (.cells #[.int .i64 x.ty, .int .i64 x.fr, .int .i64 x.to] 36 (0, 0))).mono (by simp))) (by omega)).trans hg3
  have HQ3 := Lib.hid (HQ2.out.grow (t0 := 36) (by decide) (by decide) (by omega) hg3')
  have HB3 := Lib.hid ((BoxIs.up HB8.out (below_a _ _)).grow (by decide) hg3)
  have HO3 := Lib.hid ho3
  have HO4 := Lib.hid (hg3'.rowZ (by decide) HO1.out)
  clear hg3 hg3' ho3 c0 c1 c2 c3 f2 f3 z0 z1
  obtain ⟨⟨c0, c1⟩, ⟨⟨c2, c3⟩, f2, f3⟩, _⟩ := HQ3.out
  obtain ⟨z0, z1⟩ := S1E.lt HQ3.out
  obtain ⟨b0, b1⟩ := BoxIs.cells HB3.out
  have bf := BoxIs.free HB3.out 1
  rw [HL.out]
  go_wp2_with fail
  have HQ4 := Lib.hid (S1E.set HQ3.out (p := ⟨w2.heap.size, 1, none⟩) (by have := (S1E.lt HQ2.out).2; show _ ≤ w2.heap.size; omega) (.slice a3 (g.es.length + 1) c3'))
  have HB4 := Lib.hid (BoxIs.set1 HB3.out (.slice a3 (g.es.length + 1) c3'))
  have HO5 := Lib.hid (OwnZ.set (x := .slice a3 (g.es.length + 1) c3') (HL.out ▸ HO3.out) HB3.out (by decide) 1)
  have HO6 := Lib.hid (OwnZ.set (x := .slice a3 (g.es.length + 1) c3') HO4.out HB3.out (by decide) 1)
  clear c0 c1 c2 c3 f2 f3 z0 z1 b0 b1 bf
  generalize w3.setCell ⟨w2.heap.size, 1, none⟩ (.slice a3 (g.es.length + 1) c3') = w4 at *
  obtain ⟨⟨c0, c1⟩, ⟨⟨c2, c3⟩, f2, f3⟩, _⟩ := HQ4.out
  obtain ⟨z0, z1⟩ := S1E.lt HQ4.out
  obtain ⟨b0, b1⟩ := BoxIs.cells HB4.out
  go_region
  all_goals
    go_wp2_with fail
    obtain ⟨r0, r1⟩ := S1E.res HQ4.out (.slice a1 g.ns.length c1') (.slice a3 (g.es.length + 1) c3')
    refine bodyPost_ret (v := .tuple #[gval a1 g.ns.length c1' a3 (g.es.length + 1) c3', .int .i64 (g.es.length : Nat), .int .i64 0]) (by simp [results, Try.results20, go_sem, r0, r1]) rfl ?_
    have HGG := Lib.hid (isG_of (g := ⟨g.ns, g.es ++ [x]⟩) (isI_resY HO6.out (.slice a1 g.ns.length c1') (.slice a3 (g.es.length + 1) c3')) (isE_resY HO5.out _ _))
    exact ⟨⟨_, by rw [HI2.out, HR.out]; rfl, by rw [HG2.out]; exact HGG.out.up (below_d _)⟩, Below.drew (HST.out _ HQ4.out _ _).2.2.2.2.1⟩


end Go.Proofs.Ytiafmhdicgmfaaa
