/-
  Difference, the program: complete.
-/
import Derived.Test.YtcmibhechhcpiaaPApp
import Derived.Test.YtcmibhechhcpiaaPTop
namespace Go.Proofs.Ytcmibhechhcpiaa
open Go.RowKit Go.Shelf

attribute [local go_sem] Oper.semAt_some
attribute [local go_sem ↓] appP_eq inAt_zero inAt_succ


theorem at_alloc (W : World) (o : Obj) (b : Nat) : (W.alloc o).heap[b]? = if b = W.heap.size then some o else W.heap[b]? := by
  show (W.heap.push o)[b]? = _
  rw [Array.getElem?_push]
theorem size_alloc (W : World) (o : Obj) : (W.alloc o).heap.size = W.heap.size + 1 := by simp
theorem size_drew (W : World) : W.drew.heap.size = W.heap.size := rfl
theorem at_drew (W : World) (b : Nat) : W.drew.heap[b]? = W.heap[b]? := rfl
theorem Lib.both {R G : Prop} (h : Hid R → G) (hr : R) : G := h (Lib.hid hr)
/-- what complete answers -/
def CompEnd (base : Nat) (us : List (Int × Int)) (e : Ending) (w' : World) : Prop := ∃ v, e = .returned v ∧ OwnU w' base v us
theorem walks_back (l : List Arc) {K k : Nat} (hk : k < K) : backF ((walksL l K).take K) k = (K - 1 - k, sumE l (K - 1 - k)) := by
  have e : ((walksL l K).take K).length = K := by rw [List.length_take, walksL_length]; omega
  unfold backF
  rw [e, List.getD_eq_getElem?_getD, List.getElem?_take, if_pos (by omega)]
  unfold walksL
  rw [List.getElem?_map, List.getElem?_range (by omega)]
  rfl

/-- the blocks of the search -/
def CSt (w W : World) (A : Option Addr) (c : Nat) (l : List Arc) (a : Arc) (ga gm Bs bw K cw : Nat) (p : Nat) (q : Int) (us : List (Int × Int)) (v : Value) : Prop :=
  Boxed W w.heap.size 69 (.slice A l.length c) ∧ W.heap[w.heap.size + 1]? = some (.cells #[.int .i64 a.t, .int .i64 a.s, .int .i64 a.f, .int .i64 a.g, .int .i64 a.c] 98 (0, 0)) ∧ Boxed W (w.heap.size + 1 + 1 + 1) 39 v ∧
    OwnU W w.heap.size v us ∧ Boxed W ga 3 (.int .i64 p) ∧ Boxed W gm 3 (.int .i64 q) ∧ Boxed W Bs 87 (.slice (some ⟨bw, 0, none⟩) K cw) ∧ Below w.heap.size w W
theorem cells_kept {W W' : World} {row : Option Nat} {b : Nat} {cs : Array Value} {t : TypeId} (h : W.heap[b]? = some (.cells cs t (0, 0))) (hg : W.grownBy W' row) (hr : ∀ r, row = some r → ∃ o : Obj, W.heap[r]? = some o ∧ o.isCells = false) : W'.heap[b]? = some (.cells cs t (0, 0)) := by
  refine (hg.block b (Array.getElem?_eq_some_iff.1 h).1 (fun e => ?_)).trans h
  obtain ⟨o, ho, hc⟩ := hr b e.symm
  rw [h] at ho
  cases ho
  cases hc
theorem cst_kept {w W W' : World} {B : Nat} {row : Option Nat} {A : Option Addr} {c : Nat} {l : List Arc} {a : Arc} {ga gm Bs bw K cw p : Nat} {q : Int} {us : List (Int × Int)} {v : Value} (hB : w.heap.size ≤ B) (h : CSt w W A c l a ga gm Bs bw K cw p q us v) (hg : W.grownBy W' row)
    (hr : ∀ r, row = some r → B ≤ r ∧ ∃ o : Obj, W.heap[r]? = some o ∧ o.isCells = false) : CSt w W' A c l a ga gm Bs bw K cw p q us v := by
  obtain ⟨h1, h2, h3, h4, h5, h6, h7, h8⟩ := h
  have hr2 := fun r e => (hr r e).2
  refine ⟨cells_kept h1 hg hr2, cells_kept h2 hg hr2, cells_kept h3 hg hr2, h4.kept hg ?_, cells_kept h5 hg hr2, cells_kept h6 hg hr2, cells_kept h7 hg hr2, h8.grown hg h8.size (fun k e => Nat.le_trans hB (hr k e).1)⟩
  rcases h4.2 with ⟨rfl, _⟩ | ⟨g, cap, cur, rfl, _, hgb, _⟩
  · exact .inl rfl
  · refine .inr fun e => ?_
    obtain ⟨o, ho, hc⟩ := hr2 g e.symm
    rw [hgb] at ho
    cases ho
    cases hc

theorem cst_below {w W W' : World} {A : Option Addr} {c : Nat} {l : List Arc} {a : Arc} {ga gm Bs bw K cw p : Nat} {q : Int} {us : List (Int × Int)} {v : Value} (h : CSt w W A c l a ga gm Bs bw K cw p q us v) (hb : Below W.heap.size W W') : CSt w W' A c l a ga gm Bs bw K cw p q us v := by
  obtain ⟨h1, h2, h3, h4, h5, h6, h7, h8⟩ := h
  have hk : ∀ (b : Nat) (o : Obj), W.heap[b]? = some o → W'.heap[b]? = some o := fun b o hbo => (hb.block b (Array.getElem?_eq_some_iff.1 hbo).1).trans hbo
  exact ⟨hk _ _ h1, hk _ _ h2, hk _ _ h3, h4.below hb (Nat.le_refl _), hk _ _ h5, hk _ _ h6, hk _ _ h7, h8.trans (hb.mono h8.size)⟩
theorem cst_alloc {w W : World} {A : Option Addr} {c : Nat} {l : List Arc} {a : Arc} {ga gm Bs bw K cw p : Nat} {q : Int} {us : List (Int × Int)} {v : Value} (h : CSt w W A c l a ga gm Bs bw K cw p q us v) (o : Obj) : CSt w (W.alloc o) A c l a ga gm Bs bw K cw p q us v :=
  cst_below h ((Below.refl _ _).alloc (Nat.le_refl _) o)

theorem own_cells {w W : World} {v : Value} {us : List (Int × Int)} (h : OwnU W w.heap.size v us) (j : Nat) (o : Obj) (e : v.ownBlock = some j) (hj : W.heap[j]? = some o) : o.isCells = true := by
  rcases h.2 with ⟨rfl, _⟩ | ⟨g, cap, cur, rfl, _, hg, _⟩
  · cases e
  · have e2 : g = j := by simpa [Value.ownBlock] using e
    subst e2
    rw [hg] at hj
    injection hj with hj
    subst hj
    rfl
theorem own_set {w W : World} {v u : Value} {us : List (Int × Int)} {b : Nat} {cs : Array Value} {t : TypeId} (h : OwnU W w.heap.size v us) (hb : W.heap[b]? = some (.cells cs t (0, 0))) (ht : 46 ≠ t) : OwnU (W.setCell ⟨b, 0, none⟩ u) w.heap.size v us :=
  h.kept (grownBy_setCell' W b u) (.inr (own_ne h hb ht))
theorem other_set {W : World} {b b' : Nat} {o : Obj} {u : Value} (h : W.heap[b]? = some o) (hne : b ≠ b') : (W.setCell ⟨b', 0, none⟩ u).heap[b]? = some o := (heap_setCell_other W _ _ _ hne).trans h
/-- the list has grown by one use, and its box holds the new one -/
theorem cst_append {w W W3 : World} {A : Option Addr} {c : Nat} {l : List Arc} {a : Arc} {ga gm Bs bw K cw p : Nat} {q : Int} {us us' : List (Int × Int)} {v v' : Value} {x : Obj} (hga : w.heap.size + 1 + 1 + 1 < ga) (hgm : w.heap.size + 1 + 1 + 1 < gm) (hbs : w.heap.size + 1 + 1 + 1 < Bs)
    (h : CSt w W A c l a ga gm Bs bw K cw p q us v) (hown : OwnU W3 w.heap.size v' us') (hg : ((W.alloc x).drew).grownBy W3 v.ownBlock) : CSt w (W3.setCell ⟨w.heap.size + 1 + 1 + 1, 0, none⟩ v') A c l a ga gm Bs bw K cw p q us' v' := by
  obtain ⟨h1, h2, h3, h4, h5, h6, h7, h8⟩ := h
  have hk : ∀ (b : Nat) (cs : Array Value) (t : TypeId), 46 ≠ t → W.heap[b]? = some (.cells cs t (0, 0)) → W3.heap[b]? = some (.cells cs t (0, 0)) := fun b cs t ht hb =>
    (hg.block b (by have := (Array.getElem?_eq_some_iff.1 hb).1; simp; omega) (Ne.symm (own_ne h4 hb ht))).trans ((Below.heap_alloc W x b (Array.getElem?_eq_some_iff.1 hb).1).trans hb)
  have k3 := hk _ _ _ (by decide) h3
  refine ⟨other_set (hk _ _ _ (by decide) h1) (by omega), other_set (hk _ _ _ (by decide) h2) (by omega), Boxed.set v' k3, own_set hown k3 (by decide), other_set (hk _ _ _ (by decide) h5) (by omega), other_set (hk _ _ _ (by decide) h6) (by omega), other_set (hk _ _ _ (by decide) h7) (by omega), ?_⟩
  exact ((Below.drew (h8.alloc h8.size x)).grown hg (by have := h8.size; simp; omega) (fun k e => (OwnE.lt h4 k e).1)).setCell (p := ⟨w.heap.size + 1 + 1 + 1, 0, none⟩) (show w.heap.size ≤ w.heap.size + 1 + 1 + 1 by omega) _
theorem cst_at {w W : World} {A : Option Addr} {c : Nat} {l : List Arc} {a : Arc} {ga gm Bs bw K cw p : Nat} {q : Int} {us : List (Int × Int)} {v : Value} (p' : Nat) (hga : w.heap.size + 1 + 1 + 1 < ga) (hne : gm ≠ ga) (hne2 : Bs ≠ ga)
    (h : CSt w W A c l a ga gm Bs bw K cw p q us v) : CSt w (W.setCell ⟨ga, 0, none⟩ (.int .i64 p')) A c l a ga gm Bs bw K cw p' q us v := by
  obtain ⟨h1, h2, h3, h4, h5, h6, h7, h8⟩ := h
  exact ⟨other_set h1 (by omega), other_set h2 (by omega), other_set h3 (by omega), own_set h4 h5 (by decide), Boxed.set _ h5, other_set h6 hne, other_set h7 hne2, h8.setCell (p := ⟨ga, 0, none⟩) (by show w.heap.size ≤ ga; omega) _⟩
theorem cst_sum {w W : World} {A : Option Addr} {c : Nat} {l : List Arc} {a : Arc} {ga gm Bs bw K cw p : Nat} {q : Int} {us : List (Int × Int)} {v : Value} (q' : Int) (hgm : w.heap.size + 1 + 1 + 1 < gm) (hne : ga ≠ gm) (hne2 : Bs ≠ gm)
    (h : CSt w W A c l a ga gm Bs bw K cw p q us v) : CSt w (W.setCell ⟨gm, 0, none⟩ (.int .i64 q')) A c l a ga gm Bs bw K cw p q' us v := by
  obtain ⟨h1, h2, h3, h4, h5, h6, h7, h8⟩ := h
  exact ⟨other_set h1 (by omega), other_set h2 (by omega), other_set h3 (by omega), own_set h4 h6 (by decide), other_set h5 hne, Boxed.set _ h6, other_set h7 hne2, h8.setCell (p := ⟨gm, 0, none⟩) (by show w.heap.size ≤ gm; omega) _⟩

set_option maxRecDepth 100000 in
set_option maxHeartbeats 8000000 in
theorem complete_any (l : List Arc) (a : Arc) (A : Option Addr) (c bw cw K : Nat) (w : World) (hK : K ≤ 13) (hcw : K + 1 ≤ cw) (hcw2 : cw ≤ maxLen) (hl : l.length ≤ 100) (hin : ∀ a ∈ l, a.f < 13 ∧ a.g < 13) (hsm : Small l) (ho : Sorted l) (ha : a ∈ l)
    (hs : ∀ k i j, k ≤ 13 → sumK l k i j < far → -1000000000 ≤ sumK l k i j ∧ sumK l k i j ≤ 1000000000) (hL : Reads EArc w w.heap.size A l) (hM : Reads EMat w w.heap.size (some ⟨bw, 0, none⟩) (walksL l K)) (hex : ∃ r, Compl l K a.g a.f a.c r) :
    Calls Try.prog 65 #[.slice (some ⟨bw, 0, none⟩) (K + 1) cw, .slice A l.length c, aval a] w fun e w' => CompEnd w.heap.size (usesOf (a :: greedy l K a.g a.f a.c)) e w' ∧ Below w.heap.size w w' := by
  unfold maxLen at hcw2
  have HL := Lib.hid hL
  obtain ⟨Ms, hMs⟩ : ∃ Ms, Ms = (walksL l K).take K := ⟨_, rfl⟩
  have hMl : Ms.length = K := by rw [hMs, List.length_take, walksL_length]; omega
  have HMR : Hid (Reads EMat w w.heap.size (some ⟨bw, 0, none⟩) Ms) := Lib.hid (by rw [hMs]; exact hM.take K)
  have HBK : Hid (∀ k, k < K → backF Ms k = (K - 1 - k, sumE l (K - 1 - k))) := Lib.hid fun k hk => by rw [hMs]; exact walks_back l hk
  have HEX := Lib.hid hex
  have HIN := Lib.hid hin
  have HSM := Lib.hid hsm
  have HSO := Lib.hid ho
  have HS := Lib.hid hs
  have HA := Lib.hid ha
  have k0 : (0 : Int) ≤ (K : Int) := by omega
  have k1 : (K : Int) ≤ (cw : Int) := by omega
  have k2 : ((K : Int)).toNat = K := by omega
  have k3 : (cw : Int) ≤ 9223372036854775807 := by omega
  clear hL hM hex hin hsm ho hs ha hMs
  refine (callsIn_wide (n := 8)).1 ?_
  refine callsIn_of_wp_marks Try.func65 rfl trivial ?_ rfl
  simp only [Try.ntmps65, List.size_toArray, List.length_cons, List.length_nil, Nat.reduceAdd, Nat.reduceSub, Array.replicate_succ, Array.replicate_zero, List.push_toArray, List.append_toArray, List.nil_append, List.cons_append]
  gi_wp2
  apply Lib.both
  · intro hRest
    gi_region
    · obtain ⟨W, hW⟩ : ∃ W, W = World.drew ((((((w.alloc (.cells #[.slice A l.length c] 69)).alloc (.cells #[.int .i64 a.t, .int .i64 a.s, .int .i64 a.f, .int .i64 a.g, .int .i64 a.c] 98)).alloc (.cells #[.int .i64 a.t, .int .i64 a.s] 46)).alloc (.cells #[.slice (some ⟨w.heap.size + 1 + 1, 0, none⟩) 1 1] 39)).alloc (.cells #[.int .i64 a.g] 3)).alloc (.cells #[.int .i64 a.c] 3)) := ⟨_, rfl⟩
      rw [← hW]
      have hWB : W.heap.size = w.heap.size + 1 + 1 + 1 + 1 + 1 + 1 := by rw [hW]; simp
      obtain ⟨ga, hga⟩ : ∃ ga, ga = w.heap.size + 1 + 1 + 1 + 1 := ⟨_, rfl⟩
      obtain ⟨gm, hgm⟩ : ∃ gm, gm = w.heap.size + 1 + 1 + 1 + 1 + 1 := ⟨_, rfl⟩
      obtain ⟨Bs, hBs⟩ : ∃ Bs, W.heap.size = Bs := ⟨_, rfl⟩
      have HST : Hid (CSt w (W.alloc (.cells #[.slice (some ⟨bw, 0, none⟩) K cw] 87)) A c l a ga gm Bs bw K cw a.g a.c (usesOf [a]) (.slice (some ⟨w.heap.size + 1 + 1, 0, none⟩) 1 1)) := by
        have hBs2 : Bs = w.heap.size + 1 + 1 + 1 + 1 + 1 + 1 := by omega
        subst hga hgm hBs2
        clear hWB
        subst hW
        refine Lib.hid ⟨?_, ?_, ?_, OwnE.lit (E := EUse) (g := w.heap.size + 1 + 1) ?_ rfl (by omega) rfl (by simp), ?_, ?_, ?_, ?_⟩
        rotate_left 7
        · refine Below.alloc (Below.drew (Below.alloc (Below.alloc (Below.alloc (Below.alloc (Below.alloc (Below.alloc (Below.refl _ _) ?_ _) ?_ _) ?_ _) ?_ _) ?_ _) ?_ _)) ?_ _ <;> first | omega | (simp only [size_alloc]; omega)
        all_goals (simp only [Boxed, at_alloc, at_drew, size_alloc, size_drew]; repeat (first | rfl | (split; · (first | rfl | omega))))
      have h1 : w.heap.size + 1 + 1 + 1 < ga := by omega
      have h2 : w.heap.size + 1 + 1 + 1 < gm := by omega
      have h3 : ga < Bs := by omega
      have h4 : gm < Bs := by omega
      have h5 : ga ≠ gm := by omega
      rw [← hgm, ← hga]
      clear hW hWB hga hgm
      revert HST h5 h4 h3 h2 h1 hBs Bs gm ga W
      exact hRest.out
    · obtain ⟨W, hW⟩ : ∃ W, W = World.drew ((((((w.alloc (.cells #[.slice A l.length c] 69)).alloc (.cells #[.int .i64 a.t, .int .i64 a.s, .int .i64 a.f, .int .i64 a.g, .int .i64 a.c] 98)).alloc (.cells #[.int .i64 a.t, .int .i64 a.s] 46)).alloc (.cells #[.slice (some ⟨w.heap.size + 1 + 1, 0, none⟩) 1 1] 39)).alloc (.cells #[.int .i64 a.c] 3)).alloc (.cells #[.int .i64 a.g] 3)) := ⟨_, rfl⟩
      rw [← hW]
      have hWB : W.heap.size = w.heap.size + 1 + 1 + 1 + 1 + 1 + 1 := by rw [hW]; simp
      obtain ⟨ga, hga⟩ : ∃ ga, ga = w.heap.size + 1 + 1 + 1 + 1 + 1 := ⟨_, rfl⟩
      obtain ⟨gm, hgm⟩ : ∃ gm, gm = w.heap.size + 1 + 1 + 1 + 1 := ⟨_, rfl⟩
      obtain ⟨Bs, hBs⟩ : ∃ Bs, W.heap.size = Bs := ⟨_, rfl⟩
      have HST : Hid (CSt w (W.alloc (.cells #[.slice (some ⟨bw, 0, none⟩) K cw] 87)) A c l a ga gm Bs bw K cw a.g a.c (usesOf [a]) (.slice (some ⟨w.heap.size + 1 + 1, 0, none⟩) 1 1)) := by
        have hBs2 : Bs = w.heap.size + 1 + 1 + 1 + 1 + 1 + 1 := by omega
        subst hga hgm hBs2
        clear hWB
        subst hW
        refine Lib.hid ⟨?_, ?_, ?_, OwnE.lit (E := EUse) (g := w.heap.size + 1 + 1) ?_ rfl (by omega) rfl (by simp), ?_, ?_, ?_, ?_⟩
        rotate_left 7
        · refine Below.alloc (Below.drew (Below.alloc (Below.alloc (Below.alloc (Below.alloc (Below.alloc (Below.alloc (Below.refl _ _) ?_ _) ?_ _) ?_ _) ?_ _) ?_ _) ?_ _)) ?_ _ <;> first | omega | (simp only [size_alloc]; omega)
        all_goals (simp only [Boxed, at_alloc, at_drew, size_alloc, size_drew]; repeat (first | rfl | (split; · (first | rfl | omega))))
      have h1 : w.heap.size + 1 + 1 + 1 < ga := by omega
      have h2 : w.heap.size + 1 + 1 + 1 < gm := by omega
      have h3 : ga < Bs := by omega
      have h4 : gm < Bs := by omega
      have h5 : ga ≠ gm := by omega
      rw [← hga, ← hgm]
      clear hW hWB hga hgm
      revert HST h5 h4 h3 h2 h1 hBs Bs gm ga W
      exact hRest.out
  · intro W ga gm Bs hBs HST hga1 hgm1 hga2 hgm2 hne1
    have hmixed : Try.prog.follows .mixedOrders = true := by kernel_rfl
    gi_wp2_with (refine ⟨trivial, ?_⟩; gi_at_call 68; refine (backward_in Fence.wide _ trivial rfl _ _ _ _).mono ?_; rintro e w' ⟨rfl, rfl⟩)
    have hsz0 : (W.alloc (.cells #[.slice (some ⟨bw, 0, none⟩) K cw] 87)).heap.size = Bs + 1 := by simp [hBs]
    obtain ⟨W0, hW0⟩ : ∃ W0, W0 = W.alloc (.cells #[.slice (some ⟨bw, 0, none⟩) K cw] 87) := ⟨_, rfl⟩
    rw [← hW0] at hsz0 HST ⊢
    clear hW0 hBs
    have hbx : W0.heap[Bs]? = some (.cells #[.slice (some ⟨bw, 0, none⟩) Ms.length cw] 87 (0, 0)) := by rw [hMl]; exact HST.out.2.2.2.2.2.2.1
    have hbel0 := HST.out.2.2.2.2.2.2.2
    refine wpIn_ordered rfl (by omega) (gf := 71) (lb := #[.pointer (some ⟨Bs, 0, none⟩)]) rfl trivial (enters_of Try.func71 (by kernel_rfl) rfl)
      (back_gives Fence.wide (8 - 1) trivial rfl (by omega) Bs w.heap.size cw (some ⟨bw, 0, none⟩) Ms (by omega) W0 hbx (by omega) (HMR.out.below hbel0)) kpB_t (kpB_b (by omega) (by omega)) (fun _ => rfl)
      (fun k W' => ∃ (p : Nat) (q : Int) (outs : List Arc) (v : Value), CInv l a K k p q outs ∧ CSt w W' A c l a ga gm Bs bw K cw p q (usesOf outs) v)
      (fun k X Y row hh hg hr => by obtain ⟨p, q, outs, v, h1, h2⟩ := hh; exact ⟨p, q, outs, v, h1, cst_kept (by omega) h2 hg hr⟩)
      ⟨a.g, a.c, [a], _, cinv_start HEX.out (by have := HSM.out a HA.out; omega), HST.out⟩
      (fun k a' W' => ∃ (p : Nat) (q : Int) (outs : List Arc) (v : Value) (gs : Nat), CInv l a K k p q outs ∧ CSt w W' A c l a ga gm Bs bw K cw p q (usesOf outs) v ∧ Mat W' gs (sumE l (K - 1 - k)) ∧ a' = { tmps := #[.slice (some ⟨bw, 0, none⟩) (K + 1) cw, .slice A l.length c, aval a, undef, .pointer (some ⟨w.heap.size, 0, none⟩), .pointer (some ⟨w.heap.size + 1, 0, none⟩), .slice none 0 0, .pointer (some ⟨w.heap.size + 1 + 1 + 1, 0, none⟩), .pointer (some ⟨ga, 0, none⟩), .pointer (some ⟨gm, 0, none⟩), undef, .pointer (some ⟨gs, 0, none⟩), undef, .pointer (some ⟨w.heap.size + 1, 0, none⟩), .agg #[.int .i64 a.t, .int .i64 a.s], .slice (some ⟨w.heap.size + 1 + 1, 0, none⟩) 1 1, .pointer (some ⟨w.heap.size + 1, 3, none⟩), .int .i64 a.g, .pointer (some ⟨w.heap.size + 1, 4, none⟩), .int .i64 a.c, .slice (some ⟨bw, 0, none⟩) (K + 1) cw, .slice (some ⟨bw, 0, none⟩) (K + 1) cw, .int .i64 ((K : Int) + 1), .int .i64 K, .slice (some ⟨bw, 0, none⟩) K cw, .func (.func 71) #[] #[.pointer (some ⟨Bs, 0, none⟩)], .int .i64 ((K - 1 - k : Nat) : Int), .agg (matA (sumE l (K - 1 - k))), undef, undef, undef, undef, undef, undef, undef, undef, undef, undef, undef, undef, undef, undef, undef, undef, undef, undef, undef, undef, undef, undef, undef, undef], defers := [] })
      (fun k a' _ X Y row hh hg hr => by obtain ⟨p, q, outs, v, gs, h1, h2, h3, h4⟩ := hh; exact ⟨p, q, outs, v, gs, h1, cst_kept (by omega) h2 hg hr, cells_kept h3 hg (fun r e => (hr r e).2), h4⟩)
      ?assign ?body ?done
    case assign =>
      rintro l' k W' KK ⟨p, q, outs, v, hinv, hst⟩ hk hKK
      have hkK : k < K := by omega
      have hbk := HBK.out k hkK
      dsimp only
      rw [hbk]
      have hst' := cst_alloc hst (.cells (matA (sumE l (K - 1 - k))) 85)
      have hbe := hst.2.2.2.2.2.2.2
      have hbsl := (Array.getElem?_eq_some_iff.1 hst.2.2.2.2.2.2.1).1
      have hsz' := hbe.size
      generalize K - 1 - k = m at hst' hbk hKK ⊢
      gi_wp2_with (with_reducible refine wpListIn_store_new rfl _ _ rfl W'.heap.size (sumE l m) rfl rfl rfl ?_)
      exact hKK _ _ ((KeepsOthers.alloc _ _).from _) ⟨(Below.refl _ _).alloc hsz' _, heap_alloc_old _ _ _ hbsl⟩ ⟨p, q, outs, v, W'.heap.size, hinv, hst', Mat.new _ _, rfl⟩
    case body =>
      rintro l' k a' W' hk ⟨p, q, outs, v, gs, hinv, hst, hmat, rfl⟩
      have hkK : k < K := by omega
      obtain ⟨b, hfind, hinv2⟩ := cinv_step HSM.out HSO.out (by omega) hkK hinv
      have hmK : K - 1 - k ≤ 13 := by omega
      have hsb := fun i j => HS.out (K - 1 - k) i j hmK
      obtain ⟨hqb1, hqb2⟩ := hinv.2.2.1
      have hlo := hinv.2.2.2
      generalize K - 1 - k = m at hfind hmat hsb hmK ⊢
      obtain ⟨hall, hfst, hr, hown, hat, hsum, hbs, hbel⟩ := id hst
      have hbl := List.mem_of_find?_eq_some hfind
      obtain ⟨hbf, hbg⟩ := HIN.out b hbl
      obtain ⟨hbc1, hbc2⟩ := HSM.out b hbl
      have hsz1 := hbel.size
      have HIX := Lib.hid (index_any m l b A w.heap.size c a.f p q gs (w.heap.size + 1) ga gm W' hl HIN.out HSM.out (HIN.out a HA.out).1 (by omega) hsb hsz1 (HL.out.below hbel) hmat (by rw [cell_of_row _ _ _ _ _ _ hfst]; rfl) hat.cell hsum.cell hfind)
      have c0 := hall.cell
      have HS1 := Lib.hid hst
      have HV2 := Lib.hid hinv2
      have HBW := Lib.hid hbs
      clear hst hinv hinv2 hfind hsb hmat hall hfst hr hown hat hsum hbs hbel hbl
      gi_wp2_with (refine ⟨trivial, ?_⟩; gi_at_call 69; refine (CallsIn.inRound l' (callsIn_wide.2 HIX.out)).mono ?_; rintro e W2 ⟨⟨i, hib, rfl⟩, hb2⟩)
      have hst2 := cst_below HS1.out hb2
      obtain ⟨us, hus⟩ : ∃ us, us = usesOf outs := ⟨_, rfl⟩
      rw [← hus] at hst2
      have HKF2 := Lib.hid (keepsFrom_of_below (B := W0.heap.size) hb2)
      have HBE2 : Hid (Below w.heap.size W' W2) := Lib.hid (hb2.mono hsz1)
      obtain ⟨hall, hfst, hr, hown, hat, hsum, hbs, hbel⟩ := id hst2
      have hil : i < l.length := (List.getElem?_eq_some_iff.1 hib).1
      have hie : l[i] = b := by
        have h := List.getElem?_eq_getElem hil
        rw [hib] at h
        injection h with h
        exact h.symm
      obtain ⟨bl, off, rfl, hbb, e0, e1, e2, e3, e4⟩ := Arcs.cells (HL.out.below hbel) hil
      rw [hie] at e0 e1 e2 e3 e4
      obtain ⟨Ar, cr, rfl⟩ := OwnE.slice hown
      have c1 := hall.cell
      have c2 := hr.cell
      have c2a : ((W2.alloc (.cells #[.int .i64 b.t, .int .i64 b.s] 46 (0, 0))).drew).cell? ⟨w.heap.size + 1 + 1 + 1, 0, none⟩ = some (.slice Ar us.length cr) := (show Boxed ((W2.alloc (.cells #[.int .i64 b.t, .int .i64 b.s] 46 (0, 0))).drew) _ _ _ from hr.alloc _).cell
      have i0 : (0 : Int) ≤ (i : Int) := by omega
      have i1 : (i : Int) < (l.length : Int) := by omega
      have i2 : ((i : Int)).toNat = i := by omega
      have hne := Ne.symm (own_ne hown hr (by decide))
      have HNE := Lib.hid hne
      have HOW := Lib.hid hown
      have HR2 := Lib.hid hr
      have HS2 := Lib.hid hst2
      have hlu : us.length ≤ 1000000 := by rw [hus, usesOf_len]; omega
      have HLU := Lib.hid hlu
      have hsz2 := hbel.size
      have HIE := Lib.hid hie
      clear hst2 hb2 hall hfst hr hown hat hsum hbs hie hne hlu hib HS1 HIX
      have HUS := Lib.hid hus
      clear hus
      obtain ⟨us3, hus3⟩ : ∃ us3, us3 = us ++ [((b.t : Int), b.s)] := ⟨_, rfl⟩
      have HU3 := Lib.hid hus3
      have HUE : Hid (us3 = usesOf (outs ++ [b])) := Lib.hid (by rw [hus3, HUS.out, usesOf_snoc])
      clear hus3
      rename_i KK QQ hKK
      have HFIN : Hid (∀ (A3 : Option Addr) (cc3 : Nat) (W3 : World), OwnU W3 w.heap.size (.slice A3 us3.length cc3) us3 → ((W2.alloc (.cells #[.int .i64 b.t, .int .i64 b.s] 46 (0, 0))).drew).grownBy W3 (Value.slice Ar us.length cr).ownBlock →
          KK { tmps := #[.slice (some ⟨bw, 0, none⟩) (K + 1) cw, .slice (some ⟨bl, off, none⟩) l.length c, aval a, undef, .pointer (some ⟨w.heap.size, 0, none⟩), .pointer (some ⟨w.heap.size + 1, 0, none⟩), .slice none 0 0, .pointer (some ⟨w.heap.size + 1 + 1 + 1, 0, none⟩), .pointer (some ⟨ga, 0, none⟩), .pointer (some ⟨gm, 0, none⟩), undef, .pointer (some ⟨gs, 0, none⟩), .int .i64 i, .pointer (some ⟨w.heap.size + 1, 0, none⟩), .agg #[.int .i64 a.t, .int .i64 a.s], .slice (some ⟨w.heap.size + 1 + 1, 0, none⟩) 1 1, .pointer (some ⟨w.heap.size + 1, 3, none⟩), .int .i64 a.g, .pointer (some ⟨w.heap.size + 1, 4, none⟩), .int .i64 a.c, .slice (some ⟨bw, 0, none⟩) (K + 1) cw, .slice (some ⟨bw, 0, none⟩) (K + 1) cw, .int .i64 ((K : Int) + 1), .int .i64 K, .slice (some ⟨bw, 0, none⟩) K cw, .func (.func 71) #[] #[.pointer (some ⟨Bs, 0, none⟩)], .int .i64 m, .agg (matA (sumE l m)), .slice (some ⟨bl, off, none⟩) l.length c, .func (.func 70) #[] #[.pointer (some ⟨gs, 0, none⟩), .pointer (some ⟨w.heap.size + 1, 0, none⟩), .pointer (some ⟨ga, 0, none⟩), .pointer (some ⟨gm, 0, none⟩)], .int .i64 i, .slice Ar us.length cr, .slice (some ⟨bl, off, none⟩) l.length c, .int .i64 i, .pointer (some ⟨bl, off + i * 5, none⟩), .pointer (some ⟨bl, off + i * 5, none⟩), .agg #[.int .i64 b.t, .int .i64 b.s], .slice (some ⟨W2.heap.size, 0, none⟩) 1 1, .slice A3 us3.length cc3, undef, undef, undef, undef, undef, undef, undef, undef, undef, undef, undef, undef, undef], defers := [] } (W3.setCell ⟨w.heap.size + 1 + 1 + 1, 0, none⟩ (.slice A3 us3.length cc3))) := by
        refine Lib.hid fun A3 cc3 W3 hown3 hg3 => hKK _ _ ?_
        have hst4 := cst_append hga1 hgm1 (Nat.lt_trans hga1 hga2) HS2.out hown3 hg3
        have hk4 : KeepsFrom W0.heap.size W' (W3.setCell ⟨w.heap.size + 1 + 1 + 1, 0, none⟩ (.slice A3 us3.length cc3)) :=
          (HKF2.out.trans ((KeepsOthers.alloc _ _).from _)).trans (((KeepsOthers.drew _).from _).trans (((KeepsOthers.of_grownBy hg3 (fun j o e hj => own_cells (HOW.out.alloc _) j o e hj)).from _).trans ((KeepsOthers.setCell _ _ _).from _)))
        have hb4 : Below w.heap.size W' (W3.setCell ⟨w.heap.size + 1 + 1 + 1, 0, none⟩ (.slice A3 us3.length cc3)) := ((Below.drew (HBE2.out.alloc hsz2 _)).grown hg3 (by simp; omega) (fun k e => (OwnE.lt HOW.out k e).1)).setCell (p := ⟨w.heap.size + 1 + 1 + 1, 0, none⟩) (show w.heap.size ≤ w.heap.size + 1 + 1 + 1 by omega) _
        clear hown3 hg3 hKK
        obtain ⟨W4, hW4⟩ : ∃ W4, W4 = W3.setCell ⟨w.heap.size + 1 + 1 + 1, 0, none⟩ (.slice A3 us3.length cc3) := ⟨_, rfl⟩
        rw [← hW4] at hst4 hk4 hb4 ⊢
        clear hW4
        obtain ⟨k1a, k1b, k1c, k1d, k1e, k1f, k1g, k1h⟩ := id hst4
        have d0 := k1a.cell
        have d1 := k1e.cell
        have d1f := k1e.frozen
        have d2 := k1f.cell
        obtain ⟨bl', off', heq, _, _, _, _, d3, d4⟩ := Arcs.cells (HL.out.below k1h) hil
        cases heq
        rw [HIE.out] at d3 d4
        have hst5 := cst_at b.g hga1 (Ne.symm hne1) (by omega) hst4
        have q1 : -9223372036854775808 ≤ q + b.c := by omega
        have q2 : q + b.c ≤ 9223372036854775807 := by omega
        have hst7 := cst_sum (q + b.c) hgm1 hne1 (by omega) hst5
        have hst7 := cst_below hst7 (Below.drew (Below.refl _ _))
        rw [HUE.out] at hst7
        have hwr : IntKind.i64.wrap (q + b.c) = q + b.c := by rw [IntKind.wrap_i64]; omega
        have HEND : Hid (∀ a6, Exit.inBlock 1 QQ .normal a6 ((W4.setCell ⟨ga, 0, none⟩ (.int .i64 b.g)).setCell ⟨gm, 0, none⟩ (.int .i64 (q + b.c))).drew) := Lib.hid fun a6 => by
          exact ⟨hk4.trans (((KeepsOthers.setCell _ _ _).from _).trans (((KeepsOthers.setCell _ _ _).from _).trans ((KeepsOthers.drew _).from _))),
            ⟨Below.drew ((hb4.setCell (p := ⟨ga, 0, none⟩) (show w.heap.size ≤ ga by omega) _).setCell (p := ⟨gm, 0, none⟩) (show w.heap.size ≤ gm by omega) _), hst7.2.2.2.2.2.2.1.trans HBW.out.symm⟩, b.g, q + b.c, outs ++ [b], _, HV2.out, hst7⟩
        obtain ⟨m1a, m1b, m1c, m1d, m1e, m1f, m1g, m1h⟩ := id hst5
        have e0' := m1a.cell
        have e2' := m1f.cell
        have e2f := m1f.frozen
        obtain ⟨bl', off', heq, _, _, _, _, e3', e4'⟩ := Arcs.cells (HL.out.below m1h) hil
        cases heq
        rw [HIE.out] at e3' e4'
        clear hst4 hk4 hst5 hst7 hb4 k1a k1b k1c k1d k1e k1f k1g k1h m1a m1b m1c m1d m1e m1f m1g m1h e0 e1 e2 e3 e4 c0 c1 c2 c2a
        gi_wp2
        gi_region
        all_goals exact HEND.out _
      clear hKK
      gi_region_with_o ((refine appP_use w.heap.size (.slice Ar us.length cr) us (by rfl) (HOW.out.below (Below.drew ((Below.refl _ _).alloc (Nat.le_refl _) _)) (Nat.le_refl _)) W2.heap.size 1 ((b.t : Int), b.s) (by rfl) (heap_alloc_new W2 _) HLU.out (by simp; omega) ?_; intro v3 W3 hown3 hg3 hb3; replace hown3 := hown3.cast HU3.out.symm; have hr3 : Boxed W3 (w.heap.size + 1 + 1 + 1) 39 (.slice Ar us.length cr) := Boxed.kept (show Boxed ((W2.alloc (.cells #[.int .i64 b.t, .int .i64 b.s] 46 (0, 0))).drew) _ _ _ from HR2.out.alloc _) hg3 HNE.out; have c3 := hr3.cell; have f3 := hr3.frozen; obtain ⟨A3, cc3, rfl⟩ := OwnE.slice hown3))
      all_goals exact HFIN.out _ _ _ hown3 hg3
    case done =>
      rintro D W' hD ⟨p, q, outs, v, hinv, hst⟩ hKd
      rw [hMl] at hinv
      have ho := cinv_end hinv
      subst ho
      obtain ⟨hall, hfst, hr, hown, hat, hsum, hbs, hbel⟩ := hst
      have c0 := hr.cell
      gi_wp2
      refine ⟨by simp, .inl ⟨_, _, rfl, run_takeDeferred hKd, ?_⟩⟩
      refine ⟨_, results_tmp rfl _ _ _, ⟨_, rfl, ?_⟩, ?_⟩
      · exact ownsRow_putObj hown (.deferred none) hKd rfl
      · exact hbel.trans (belowK_b (w := W0) (by omega) W' D _ _ hD hKd rfl rfl)

end Go.Proofs.Ytcmibhechhcpiaa
