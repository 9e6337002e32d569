/-
  Graphs, the reference: Union.
-/
import Derived.Test.YtiafmhdicgmfaaaGUniP
import Derived.Test.YtiafmhdicgmfaaaGValR
import Derived.Test.YtiafmhdicgmfaaaChain
namespace Go.Proofs.Ytiafmhdicgmfaaa
open Go.RowKit

theorem uni_one {a b : Gr} (h : validE a ≠ 0) : uniE a b = validE a := by unfold uniE; rw [if_pos h]
theorem uni_two {a b : Gr} (h : validE a = 0) (h2 : validE b ≠ 0) : uniE a b = validE b := by unfold uniE; rw [if_neg (by omega), if_pos h2]
theorem uni_three {a b : Gr} (h : validE a = 0) (h2 : validE b = 0) (h3 : 40 < a.ns.length + b.ns.length ∨ 80 < a.es.length + b.es.length) : uniE a b = 3 := by unfold uniE; rw [if_neg (by omega), if_neg (by omega), if_pos h3]
theorem uni_ok {a b : Gr} (h : validE a = 0) (h2 : validE b = 0) (h3 : ¬ (40 < a.ns.length + b.ns.length ∨ 80 < a.es.length + b.es.length)) : uniE a b = 0 := by unfold uniE; rw [if_neg (by omega), if_neg (by omega), if_neg h3]

/-- the result's box and its two rows, beside all else -/
structure UZ (w : World) (u0 v0 u1 v1 : Value) (base bg : Nat) (vN vE : Value) (xs : List Int) (es : List Ed) (W : World) : Prop where
  x : UX w u0 v0 u1 v1 W
  b : BoxIs bg vN vE 25 W
  n : OwnZ EInt 3 W base vN xs
  e : OwnZ EEd 36 W base vE es
  s : base ≤ W.heap.size
theorem UZ.up {w : World} {u0 v0 u1 v1 : Value} {base bg : Nat} {vN vE : Value} {xs : List Int} {es : List Ed} {W W' : World} (h : UZ w u0 v0 u1 v1 base bg vN vE xs es W) (hb : Below W.heap.size W W') : UZ w u0 v0 u1 v1 base bg vN vE xs es W' := ⟨h.x.up hb, h.b.up hb, h.n.below hb (Nat.le_refl _), h.e.below hb (Nat.le_refl _), Nat.le_trans h.s hb.size⟩
/-- a pair is written into one of the results -/
theorem UZ.st {w : World} {u0 v0 u1 v1 : Value} {base bg : Nat} {vN vE : Value} {xs : List Int} {es : List Ed} {W : World} (h : UZ w u0 v0 u1 v1 base bg vN vE xs es W) {g : Nat} (hg : g = w.heap.size + 2 ∨ g = w.heap.size + 3 ∨ g = w.heap.size + 4) (h5 : w.heap.size + 5 ≤ base) (h6 : base ≤ bg) (x y : Value) : UZ w u0 v0 u1 v1 base bg vN vE xs es ((W.setCell ⟨g, 0, none⟩ x).setCell ⟨g, 1, none⟩ y) := by
  have kb : ∀ {k : Nat} {t : TypeId}, Blk k t W → Blk k t ((W.setCell ⟨g, 0, none⟩ x).setCell ⟨g, 1, none⟩ y) := fun {k t} hk => by
    by_cases e : k = g
    · subst e; exact hk.store _ _
    · exact (hk.set (p := ⟨g, 0, none⟩) (fun e2 => e e2.symm) _).set (p := ⟨g, 1, none⟩) (fun e2 => e e2.symm) _
  have kx : ∀ {k : Nat} {u v : Value} {t : TypeId}, k ≠ g → BoxIs k u v t W → BoxIs k u v t ((W.setCell ⟨g, 0, none⟩ x).setCell ⟨g, 1, none⟩ y) := fun {k u v t} e hk => (hk.set (p := ⟨g, 0, none⟩) (fun e2 => e e2.symm) _).set (p := ⟨g, 1, none⟩) (fun e2 => e e2.symm) _
  exact ⟨⟨kx (by omega) h.x.b0, kx (by omega) h.x.b1, kb h.x.r2, kb h.x.r3, kb h.x.r4, (h.x.be.setCell (p := ⟨g, 0, none⟩) (show w.heap.size ≤ g by omega) _).setCell (p := ⟨g, 1, none⟩) (show w.heap.size ≤ g by omega) _⟩,
    kx (by omega) h.b, (h.n.stored (a := ⟨g, 0, none⟩) (show g < base by omega) _).stored (a := ⟨g, 1, none⟩) (show g < base by omega) _, (h.e.stored (a := ⟨g, 0, none⟩) (show g < base by omega) _).stored (a := ⟨g, 1, none⟩) (show g < base by omega) _, by simpa using h.s⟩
theorem OwnZ.set6 {α : Type} {E : El α} {t : TypeId} {W : World} {base h : Nat} {v : Value} {xs : List α} (ho : OwnZ E t W base v xs) (hh : h + 5 ≤ base) (a b c d e f : Value) : OwnZ E t (Go.Proofs.Ytiafmhdicgmfaaa.set6 W h a b c d e f) base v xs := ho.imp (fun h => OwnE.set6 h hh a b c d e f) id
theorem UX.grow {w : World} {u0 v0 u1 v1 : Value} {W W' : World} (h : UX w u0 v0 u1 v1 W) {t0 : TypeId} {base : Nat} (h1 : 25 ≠ t0) (h2 : 40 ≠ t0) (hb : w.heap.size ≤ base) (hg : Grow t0 base W W') : UX w u0 v0 u1 v1 W' := ⟨h.b0.grow h1 hg, h.b1.grow h1 hg, h.r2.grow h1 hg, h.r3.grow h2 hg, h.r4.grow h2 hg, h.be.trans (hg.1.mono hb)⟩
theorem OwnZ.alloc' {α : Type} {E : El α} {t : TypeId} {w : World} {base : Nat} {v : Value} {xs : List α} (h : OwnZ E t w base v xs) (o : Obj) : OwnZ E t (w.alloc o) base v xs := h.below (below_a w o) (Nat.le_refl _)

/-- what the last region's values are -/
def RF (base n m n2 m2 : Nat) (h : Nat) (vN vE : Value) (B0 B1 : Value) : Nat → Value → World → Prop
  | 0, r, _ => r = .agg #[vN, vE]
  | 1, r, _ => r = .int .i64 (n : Int)
  | 2, r, _ => r = .int .i64 (m : Int)
  | 3, r, _ => r = .int .i64 (n : Int)
  | 4, r, _ => r = .pointer (some ⟨h + 1, 0, none⟩)
  | 5, r, _ => r = B0
  | 6, r, _ => r = .int .i64 (n2 : Int)
  | 7, r, _ => r = .int .i64 (m : Int)
  | 8, r, _ => r = .pointer (some ⟨h + 1, 1, none⟩)
  | 9, r, _ => r = B1
  | 10, r, _ => r = .int .i64 (m2 : Int)
  | 11, r, W => OwnI W base r (numS 0 n)
  | 12, r, W => OwnI W base r (numS 0 m)
  | 13, r, W => ∃ u v, r = .agg #[u, v] ∧ OwnI W base u (numS 0 n) ∧ OwnI W base v (numS 0 m)
  | 14, r, W => OwnI W base r (numS n n2)
  | 15, r, W => OwnI W base r (numS m m2)
  | _, r, W => ∃ u v, r = .agg #[u, v] ∧ OwnI W base u (numS n n2) ∧ OwnI W base v (numS m m2)
theorem RF.up {base n m n2 m2 h : Nat} {vN vE B0 B1 : Value} (j : Nat) (v : Value) (W W' : World) (hh : RF base n m n2 m2 h vN vE B0 B1 j v W) (hb : Below W.heap.size W W') : RF base n m n2 m2 h vN vE B0 B1 j v W' := by
  unfold RF at hh ⊢
  split at hh <;> first
    | exact hh
    | exact OwnE.below hh hb (Nat.le_refl _)
    | (obtain ⟨u, v, e, h1, h2⟩ := hh; exact ⟨u, v, e, OwnE.below h1 hb (Nat.le_refl _), OwnE.below h2 hb (Nat.le_refl _)⟩)

set_option maxRecDepth 100000 in
set_option maxHeartbeats 8000000 in
theorem uniR : UniC 26 := by
  intro a b An cn Ae ce Bn dn Be de w hT hU
  have hs1 := UX.start w (.slice An a.ns.length cn) (.slice Ae a.es.length ce) (.slice Bn b.ns.length dn) (.slice Be b.es.length de) (.slice none 0 0) (.slice none 0 0) (.slice none 0 0) (.slice none 0 0) (.slice none 0 0) (.slice none 0 0)
  have HUX := Lib.hid (fun W W' h hb => UX.up (w := w) (u0 := .slice An a.ns.length cn) (v0 := .slice Ae a.es.length ce) (u1 := .slice Bn b.ns.length dn) (v1 := .slice Be b.es.length de) (W := W) (W' := W') h hb)
  have HVA := Lib.hid (fun W (h : Below w.heap.size w W) => validR_any a An cn Ae ce W (hT.up h))
  have HVB := Lib.hid (fun W (h : Below w.heap.size w W) => validR_any b Bn dn Be de W (hU.up h))
  have H1 := Lib.hid (fun h => uni_one (a := a) (b := b) h)
  have H2 := Lib.hid (fun h h2 => uni_two (a := a) (b := b) h h2)
  have H3 := Lib.hid (fun h h2 h3 => uni_three (a := a) (b := b) h h2 h3)
  have H4 := Lib.hid (fun h h2 h3 => uni_ok (a := a) (b := b) h h2 h3)
  have HZA := Lib.hid (fun h => valid_zero (g := a) h)
  have HZB := Lib.hid (fun h => valid_zero (g := b) h)
  have HG : Hid (uniG a b = if uniE a b = 0 then ⟨a.ns ++ b.ns, a.es ++ b.es.map (shE a.ns.length)⟩ else noG) := Lib.hid rfl
  have HM : Hid (uniM a b = if uniE a b = 0 then ⟨numS 0 a.ns.length, numS 0 a.es.length⟩ else noM) := Lib.hid rfl
  have HN : Hid (uniN a b = if uniE a b = 0 then ⟨numS a.ns.length b.ns.length, numS a.es.length b.es.length⟩ else noM) := Lib.hid rfl
  have HTA := Lib.hid hT
  have HTB := Lib.hid hU
  have HS1 := Lib.hid hs1
  clear hT hU hs1
  generalize uniG a b = rg at HG ⊢
  generalize uniM a b = rm at HM ⊢
  generalize uniN a b = rn at HN ⊢
  generalize uniE a b = R at H1 H2 H3 H4 HG HM HN ⊢
  generalize validE a = VA at HVA H1 H2 H3 H4 HZA
  obtain ⟨VB, hVB⟩ : ∃ v, v = validE b := ⟨_, rfl⟩
  have HVZ : Hid (VB = 0 → validE b = 0) := Lib.hid (by rw [hVB]; exact id)
  rw [← hVB] at H2 H3 H4 HZB
  have HVB' : Hid (∀ W, Below w.heap.size w W → Calls Try.prog 16 #[gval Bn b.ns.length dn Be b.es.length de] W fun e w' => e = .returned (.int .i64 (VB : Nat)) ∧ Below W.heap.size W w') := Lib.hid (by rw [hVB]; exact HVB.out)
  clear hVB HVB
  have HER : Hid (R ≠ 0 → rg = noG ∧ rm = noM ∧ rn = noM) := Lib.hid fun h => ⟨by rw [HG.out, if_neg h], by rw [HM.out, if_neg h], by rw [HN.out, if_neg h]⟩
  go_enter Try.func26, Try.ntmps26
  go_wp2_with fail
  refine (HVA.out _ HS1.out.be).mono ?_
  rintro e w1 ⟨rfl, hb1⟩
  have HQ1 := Lib.hid (HUX.out _ _ HS1.out hb1)
  clear hb1 HS1 HVA
  have z5 := HQ1.out.lt
  obtain ⟨c0, c1⟩ := HQ1.out.b0.cells
  obtain ⟨c2, c3⟩ := HQ1.out.b1.cells
  obtain ⟨⟨p0, p1⟩, f0, f1⟩ := HQ1.out.r2.sto
  obtain ⟨⟨p2, p3⟩, f2, f3⟩ := HQ1.out.r3.sto
  obtain ⟨⟨p4, p5⟩, f4, f5⟩ := HQ1.out.r4.sto
  have y0 : w.heap.size < w1.heap.size := by omega
  have y1 : w.heap.size + 1 < w1.heap.size := by omega
  have y2 : w.heap.size + 2 < w1.heap.size := by omega
  have y3 : w.heap.size + 3 < w1.heap.size := by omega
  have y4 : w.heap.size + 4 < w1.heap.size := by omega
  by_cases hA : VA = 0
  case neg =>
    have e1 := H1.out hA
    obtain ⟨e2, e3, e4⟩ := HER.out (by omega)
    subst e1 e2 e3 e4
    have t1 : ((R : Int) != 0) = true := by simp; omega
    clear hA H1 H2 H3 H4 HER HG HM HN HZA HZB
    go_wp2_with fail
    obtain ⟨hbb, ⟨r0, r1⟩, ⟨r2, r3⟩, ⟨r4, r5⟩⟩ := UX.store HQ1.out (.slice none 0 0) (.slice none 0 0) (.slice none 0 0) (.slice none 0 0) (.slice none 0 0) (.slice none 0 0)
    refine bodyPost_ret (v := .tuple #[gval none 0 0 none 0 0, gval none 0 0 none 0 0, gval none 0 0 none 0 0, .int .i64 (R : Nat)]) (by simp [results, Try.results26, go_sem, r0, r1, r2, r3, r4, r5]) rfl ?_
    exact ⟨⟨_, _, _, rfl, isG_nil _, isM_nil _, isM_nil _⟩, hbb⟩
  subst hA
  clear H1
  go_wp2_with fail
  refine (HVB'.out _ HQ1.out.be).mono ?_
  rintro e w2 ⟨rfl, hb2⟩
  have HQ2 := Lib.hid (HUX.out _ _ HQ1.out hb2)
  clear hb2 HQ1 HVB' z5 c0 c1 c2 c3 p0 p1 p2 p3 p4 p5 f0 f1 f2 f3 f4 f5 y0 y1 y2 y3 y4
  have z5 := HQ2.out.lt
  obtain ⟨c0, c1⟩ := HQ2.out.b0.cells
  obtain ⟨c2, c3⟩ := HQ2.out.b1.cells
  obtain ⟨⟨p0, p1⟩, f0, f1⟩ := HQ2.out.r2.sto
  obtain ⟨⟨p2, p3⟩, f2, f3⟩ := HQ2.out.r3.sto
  obtain ⟨⟨p4, p5⟩, f4, f5⟩ := HQ2.out.r4.sto
  have y0 : w.heap.size < w2.heap.size := by omega
  have y1 : w.heap.size + 1 < w2.heap.size := by omega
  have y2 : w.heap.size + 2 < w2.heap.size := by omega
  have y3 : w.heap.size + 3 < w2.heap.size := by omega
  have y4 : w.heap.size + 4 < w2.heap.size := by omega
  by_cases hB : VB = 0
  case neg =>
    have e1 := H2.out (by first | rfl | trivial) hB
    obtain ⟨e2, e3, e4⟩ := HER.out (by omega)
    subst e1 e2 e3 e4
    have t1 : ((R : Int) != 0) = true := by simp; omega
    clear hB H2 H3 H4 HER HG HM HN HZA HZB
    go_wp2_with fail
    obtain ⟨hbb, ⟨r0, r1⟩, ⟨r2, r3⟩, ⟨r4, r5⟩⟩ := UX.store HQ2.out (.slice none 0 0) (.slice none 0 0) (.slice none 0 0) (.slice none 0 0) (.slice none 0 0) (.slice none 0 0)
    refine bodyPost_ret (v := .tuple #[gval none 0 0 none 0 0, gval none 0 0 none 0 0, gval none 0 0 none 0 0, .int .i64 (R : Nat)]) (by simp [results, Try.results26, go_sem, r0, r1, r2, r3, r4, r5]) rfl ?_
    exact ⟨⟨_, _, _, rfl, isG_nil _, isM_nil _, isM_nil _⟩, hbb⟩
  subst hB
  obtain ⟨a1, a2, _⟩ := HZA.out (by first | rfl | trivial)
  obtain ⟨b1, b2, _⟩ := HZB.out (by first | rfl | trivial)
  have HVB := Lib.hid (HVZ.out (by first | rfl | trivial))
  clear H2 HZA HZB HVZ
  go_wp2_with fail
  go_quiet (fail)
  have HQ3 := Lib.hid (HUX.out _ _ HQ2.out (below_draws (Below.refl _ w2) nq))
  by_cases hS : 40 < a.ns.length + b.ns.length ∨ 80 < a.es.length + b.es.length
  case pos =>
    have e1 := H3.out (by first | rfl | trivial) (by first | rfl | trivial) hS
    obtain ⟨e2, e3, e4⟩ := HER.out (by omega)
    subst e1 e2 e3 e4
    have hd : decide ((40 : Int) < (a.ns.length : Int) + (b.ns.length : Int)) = true ∨ (decide ((40 : Int) < (a.ns.length : Int) + (b.ns.length : Int)) = false ∧ decide ((80 : Int) < (a.es.length : Int) + (b.es.length : Int)) = true) := by
      by_cases h : 40 < a.ns.length + b.ns.length
      · exact .inl (decide_eq_true (by omega))
      · exact .inr ⟨decide_eq_false (by omega), decide_eq_true (by omega)⟩
    clear hS H3 H4 HER HG HM HN
    rcases hd with t1 | ⟨t1, t2⟩
    all_goals
      go_wp2_with fail
      obtain ⟨hbb, ⟨r0, r1⟩, ⟨r2, r3⟩, ⟨r4, r5⟩⟩ := UX.store HQ3.out (.slice none 0 0) (.slice none 0 0) (.slice none 0 0) (.slice none 0 0) (.slice none 0 0) (.slice none 0 0)
      refine bodyPost_ret (v := .tuple #[gval none 0 0 none 0 0, gval none 0 0 none 0 0, gval none 0 0 none 0 0, .int .i64 3]) (by simp [results, Try.results26, go_sem, r0, r1, r2, r3, r4, r5]) rfl ?_
      exact ⟨⟨_, _, _, rfl, isG_nil _, isM_nil _, isM_nil _⟩, hbb⟩
  have e1 := H4.out (by first | rfl | trivial) (by first | rfl | trivial) hS
  subst e1
  have t1 : decide ((40 : Int) < (a.ns.length : Int) + (b.ns.length : Int)) = false := decide_eq_false (by omega)
  have t2 : decide ((80 : Int) < (a.es.length : Int) + (b.es.length : Int)) = false := decide_eq_false (by omega)
  have l1 : a.ns.length + b.ns.length ≤ 40 := by omega
  have l2 : a.es.length + b.es.length ≤ 80 := by omega
  have HG2 := Lib.hid (show rg = ⟨a.ns ++ b.ns, a.es ++ b.es.map (shE a.ns.length)⟩ by rw [HG.out, if_pos rfl])
  have HM2 := Lib.hid (show rm = ⟨numS 0 a.ns.length, numS 0 a.es.length⟩ by rw [HM.out, if_pos rfl])
  have HN2 := Lib.hid (show rn = ⟨numS a.ns.length b.ns.length, numS a.es.length b.es.length⟩ by rw [HN.out, if_pos rfl])
  clear hS H3 H4 HER HG HM HN
  go_wp2_with fail
  clear c0 c1 c2 c3 p0 p1 p2 p3 p4 p5 f0 f1 f2 f3 f4 f5 y0 y1 y2 y3 y4 t1 t2 HQ2 z5
  generalize w2.drewN nq = w3 at *
  refine (copied_any a _ _ _ _ _ ⟨by omega, by omega⟩ (HTA.out.up HQ3.out.be)).mono ?_
  rintro e w4 ⟨⟨v, u, rfl, hv, hu⟩, hb4⟩
  obtain ⟨av, kv, rfl⟩ := hv.slice
  obtain ⟨au, ku, rfl⟩ := hu.slice
  have z3 := HQ3.out.lt
  have hw34 := hb4.size
  have HQ5 := Lib.hid ((HQ3.out.up hb4).up (below_a w4 (.cells #[.slice av a.ns.length kv, .slice au a.es.length ku] 25 (0, 0))))
  have HV5 := Lib.hid (hv.alloc' (.cells #[.slice av a.ns.length kv, .slice au a.es.length ku] 25 (0, 0)))
  have HU5 := Lib.hid (hu.alloc' (.cells #[.slice av a.ns.length kv, .slice au a.es.length ku] 25 (0, 0)))
  have HB5 : Hid (BoxIs w4.heap.size (.slice av a.ns.length kv) (.slice au a.es.length ku) 25 (w4.alloc (.cells #[.slice av a.ns.length kv, .slice au a.es.length ku] 25 (0, 0)))) := Lib.hid (heap_alloc_new _ _)
  have hw5 : (w4.alloc (.cells #[.slice av a.ns.length kv, .slice au a.es.length ku] 25 (0, 0))).heap.size = w4.heap.size + 1 := by simp
  have hL5 := Lib.hid (hb4.trans ((below_a w4 (.cells #[.slice av a.ns.length kv, .slice au a.es.length ku] 25 (0, 0))).mono hw34))
  obtain ⟨c2, c3⟩ := (HQ3.out.up hb4).b1.cells
  have y1 : w.heap.size + 1 < w4.heap.size := by omega
  clear hv hu hb4
  go_wp2_with (at_builtin; refine wpList_append_Z (E := EInt) rfl _ _ 22 3 rfl Try.underlying22 infoInt rfl (by decide) (by decide) w3.heap.size (.slice av a.ns.length kv) a.ns rfl ?y1 Bn b.ns.length dn w.heap.size b.ns rfl rfl ?y2 ?y3 ?y4 ?y5 ?_)
  case y1 => exact HV5.out
  case y2 => exact HTB.out.ns.below HQ5.out.be
  case y3 => omega
  case y4 => omega
  case y5 => first | omega | (simp; omega)
  intro v6 w6 ho6 hg6
  have HQ6 := Lib.hid (HQ5.out.grow (by decide) (by decide) (by omega) hg6)
  have HB6 := Lib.hid (HB5.out.grow (by decide) hg6)
  have HE6 := Lib.hid (hg6.rowZ (by decide) HU5.out)
  have HL6 := Lib.hid (hL5.out.trans (hg6.1.mono (by omega)))
  obtain ⟨nn, hnn⟩ : ∃ nn, nn = a.ns ++ b.ns := ⟨_, rfl⟩
  rw [← hnn] at ho6
  obtain ⟨an, kn, rfl⟩ := ho6.slice
  have HN6 := Lib.hid ho6
  have hs6 := HL6.out.size
  have hbg : w3.heap.size ≤ w4.heap.size := hw34
  have hlt6 := heap_lt HB6.out
  have HNN := Lib.hid hnn
  clear ho6 hg6 HQ5 HB5 HU5 HV5 hL5 hw5 c2 c3 y1 hw34 hnn
  generalize w4.heap.size = bg at *
  obtain ⟨b0, b1⟩ := HB6.out.cells
  have bf := HB6.out.free 0
  go_wp2_with fail
  have HX := Lib.hid (fun W (h : Below w3.heap.size w3 W) => HQ3.out.up h)
  have HB7 := Lib.hid (HB6.out.set0 (.slice an nn.length kn))
  have HN7 := Lib.hid (HN6.out.set (x := .slice an nn.length kn) HB6.out (by decide) 0)
  have HE7 := Lib.hid (HE6.out.set (x := .slice an nn.length kn) HB6.out (by decide) 0)
  have HL7 := Lib.hid (HL6.out.setCell (p := ⟨bg, 0, none⟩) hbg (.slice an nn.length kn))
  obtain ⟨cE, hcE⟩ : ∃ cE : Nat → List Ed, cE = fun k => a.es ++ coll (fun i => [shE a.ns.length (b.es.getD i default)]) k := ⟨_, rfl⟩
  have HC0 : Hid (cE 0 = a.es) := Lib.hid (by rw [hcE]; simp [coll])
  have HCS : Hid (∀ k, cE k ++ [shE a.ns.length (b.es.getD k default)] = cE (k + 1)) := Lib.hid fun k => by rw [hcE]; simp [coll]
  have HCL : Hid (∀ k, (cE k).length ≤ a.es.length + k) := Lib.hid fun k => by rw [hcE]; simp [coll_len]
  have HCF : Hid (cE b.es.length = a.es ++ b.es.map (shE a.ns.length)) := Lib.hid (by rw [hcE]; exact uni_es a b)
  clear hcE HB6 HN6 HE6 HL6 HQ6 b0 b1 bf hlt6
  generalize w6.setCell ⟨bg, 0, none⟩ (.slice an nn.length kn) = w7 at *
  go_loopw [13] (fun vi wr => ∃ (k : Nat) (vE : Value), k ≤ b.es.length ∧ vi = .int .i64 k ∧ BoxIs bg (.slice an nn.length kn) vE 25 wr ∧ OwnZ EInt 3 wr w3.heap.size (.slice an nn.length kn) nn ∧ OwnZ EEd 36 wr w3.heap.size vE (cE k) ∧ Below w3.heap.size w3 wr) (fun vi _ => b.es.length - (intOf vi).toNat)
  case atStart => exact ⟨0, _, Nat.zero_le _, rfl, HB7.out, HN7.out, by rw [HC0.out]; exact HE7.out, HL7.out⟩
  case round =>
    clear HB7 HN7 HE7 HL7
    obtain ⟨k, vE, hk, rfl, hbl, hownN, hown, hbel⟩ := hrel
    have hszr := hbel.size
    have hsz2 := heap_lt hbl
    have HBL := Lib.hid hbl
    have HG := Lib.hid hbel
    obtain ⟨aE, capE, rfl⟩ := hown.slice
    have HO := Lib.hid hown
    have HON := Lib.hid hownN
    clear hbl hown hbel hownN
    have hx := HX.out _ HG.out
    obtain ⟨c2, c3⟩ := hx.b1.cells
    have hl5 := hx.lt
    have y1 : w.heap.size + 1 < wr.heap.size := by omega
    clear hx
    by_cases hlt : k < b.es.length
    · obtain ⟨bb, off, rfl, hb, hc⟩ := Eds.cells (HTB.out.es.below (HX.out _ HG.out).be) hlt
      obtain ⟨k0, k1, k2'⟩ := hc k hlt
      have hbb9 : bb < wr.heap.size := by have := hb; omega
      obtain ⟨⟨f1, f2⟩, f3, f4⟩ := valid_at HVB.out hlt
      have hle := HCL.out k
      have HE2 := Lib.hid (HCS.out k)
      have hk0 : (0 : Int) ≤ (k : Int) := by omega
      have hk1 : (k : Int) < (b.es.length : Int) := by omega
      have hk2 : ((k : Int)).toNat = k := by omega
      have hsh : shE a.ns.length (b.es.getD k default) = ⟨(b.es.getD k default).ty, (b.es.getD k default).fr + a.ns.length, (b.es.getD k default).to + a.ns.length⟩ := rfl
      rw [hsh] at HE2
      clear hc hsh
      generalize (b.es.getD k default) = x at *
      obtain ⟨ty, fr, tt⟩ := x
      dsimp only at f1 f2 f3 f4 HE2 k0 k1 k2'
      obtain ⟨b0, b1⟩ := HBL.out.cells
      have bf := HBL.out.free 1
      have y9 : bg < wr.heap.size + 1 := by omega
      go_wp2_with (at_builtin; refine wpList_append_Z (E := EEd) (w := (wr.alloc _).alloc _) rfl _ _ 23 36 rfl Try.underlying23 infoEd rfl (by decide) (by decide) w3.heap.size (.slice aE (cE k).length capE) (cE k) rfl ?z1 (some ⟨wr.heap.size + 1, 0, none⟩) 1 1 (wr.heap.size + 2) [⟨ty, fr + a.ns.length, tt + a.ns.length⟩] rfl rfl ?z2 ?z3 ?z4 ?z5 ?_)
      case z1 => exact (HO.out.alloc' _).alloc' _
      case z2 => exact reads_one (new_ed (heap_two' _ _ _)) (by omega)
      case z3 => omega
      case z4 => omega
      case z5 => simp; omega
      intro v8 w8 ho8 hg8
      have HB8 := Lib.hid (((HBL.out.up (below_a _ _)).up (below_a _ _)).grow (by decide) hg8)
      have HN8 := Lib.hid (hg8.rowZ (by decide) ((HON.out.alloc' _).alloc' _))
      have HL8 := Lib.hid (((HG.out.trans ((below_a _ _).mono hszr)).trans ((below_a _ _).mono (by simp; omega))).trans hg8.1)
      rw [HE2.out] at ho8
      obtain ⟨a8, c8, rfl⟩ := ho8.slice
      have HO8 := Lib.hid ho8
      clear ho8 hg8 b0 b1 bf c2 c3 k0 k1 k2' y9
      obtain ⟨b0, b1⟩ := HB8.out.cells
      have bf := HB8.out.free 1
      go_wp2_with fail
      go_roundw
      case rel => exact ⟨k + 1, _, by omega, by go_num, HB8.out.set1 _, HN8.out.set HB8.out (by decide) 1, HO8.out.set HB8.out (by decide) 1, HL8.out.setCell (p := ⟨bg, 1, none⟩) hbg _⟩
      case measure => simp [intOf]; omega
    · have e : k = b.es.length := by omega
      subst e
      have HZ := Lib.hid (show UZ w (.slice An a.ns.length cn) (.slice Ae a.es.length ce) (.slice Bn b.ns.length dn) (.slice Be b.es.length de) w3.heap.size bg (.slice an nn.length kn) (.slice aE (cE b.es.length).length capE) nn (cE b.es.length) wr from ⟨HX.out _ HG.out, HBL.out, HON.out, HO.out, hszr⟩)
      clear HBL HO HON HG HX HC0 HCS HCL HVB HTA HTB HQ3 HUX
      go_wp2_with fail
      clear c2 c3
      refine wp_region_noPanic ?_
      refine wp_region_held_drew (S := UZ w (.slice An a.ns.length cn) (.slice Ae a.es.length ce) (.slice Bn b.ns.length dn) (.slice Be b.es.length de) w3.heap.size bg (.slice an nn.length kn) (.slice aE (cE b.es.length).length capE) nn (cE b.es.length)) (by kernel_rfl) (HZ.out.up (below_d _)) (fun hHeld => ?_)
      refine wpAnyH_act (fun a0 ha0 => ?_)
      have ea3 : a0.eval (.tmp 3) = .pointer (some ⟨w.heap.size + 1, 0, none⟩) := by rw [ha0]; rfl
      have ea10 : a0.eval (.tmp 10) = .int .i64 (a.ns.length : Int) := by rw [ha0]; rfl
      have ea11 : a0.eval (.tmp 11) = .int .i64 (a.es.length : Int) := by rw [ha0]; rfl
      have ea12 : a0.eval (.tmp 12) = .pointer (some ⟨bg, 0, none⟩) := by rw [ha0]; rfl
      have hsz0 : a0.tmps.size = 107 := by rw [ha0]; rfl
      refine chain_region (UZ w (.slice An a.ns.length cn) (.slice Ae a.es.length ce) (.slice Bn b.ns.length dn) (.slice Be b.es.length de) w3.heap.size bg (.slice an nn.length kn) (.slice aE (cE b.es.length).length capE) nn (cE b.es.length)) (RF w3.heap.size a.ns.length a.es.length b.ns.length b.es.length w.heap.size (.slice an nn.length kn) (.slice aE (cE b.es.length).length capE) (.slice Bn b.ns.length dn) (.slice Be b.es.length de)) a0 _
        [0, 1, 3, 6, 7, 8, 9, 11, 12, 13, 14, 2, 4, 5, 10, 15, 16] [90, 91, 93, 96, 97, 98, 99, 101, 102, 103, 104, 92, 94, 95, 100, 105, 106] [true, true, true, true, true, true, true, true, true, true, true, false, false, true, false, false, true] []
        _ 4 rfl (by decide) (by decide) (by kernel_rfl) (fun _ _ _ _ _ h => h) (by kernel_rfl) (fun x hx => by cases hx) (fun W W' h hb => h.up hb) RF.up ?step ?fin hHeld _ rfl
      case step =>
        intro c i d rs bs W h1 h2 h3 h4 hS hF hsz
        have hc : c < 17 := (List.getElem?_eq_some_iff.1 h3).1
        have hc : c = 0 ∨ c = 1 ∨ c = 2 ∨ c = 3 ∨ c = 4 ∨ c = 5 ∨ c = 6 ∨ c = 7 ∨ c = 8 ∨ c = 9 ∨ c = 10 ∨ c = 11 ∨ c = 12 ∨ c = 13 ∨ c = 14 ∨ c = 15 ∨ c = 16 := by omega
        clear h2 hsz
        rcases hc with rfl | rfl | rfl | rfl | rfl | rfl | rfl | rfl | rfl | rfl | rfl | rfl | rfl | rfl | rfl | rfl | rfl
        · simp only [List.getElem?_cons_zero, Option.some.injEq] at h3 h4
          subst h3 h4
          match rs, h1, hF with
          | [], _, hF =>
            clear hF
            show ChStep _ _ _ _ _ true _ _ _ _
            generalize hA : pup _ _ bs = A
            have ev0 : A.eval (.tmp 12) = .pointer (some ⟨bg, 0, none⟩) := ev_old hA ea12 rfl rfl
            clear hA
            refine ChStep.pure (o := _) (v := (.agg #[.slice an nn.length kn, .slice aE (cE b.es.length).length capE])) rfl rfl rfl (fun W2 hS2 => ?_) rfl
            obtain ⟨q0, q1⟩ := hS2.b.cells
            have ev0 := ev_raw ev0
            go_simp
        · simp only [List.getElem?_cons_zero, List.getElem?_cons_succ, Option.some.injEq] at h3 h4
          subst h3 h4
          match rs, h1, hF with
          | [r0], _, hF =>
            clear hF
            show ChStep _ _ _ _ _ true _ _ _ _
            generalize hA : pup _ _ bs = A
            have ev0 : A.eval (.tmp 10) = (.int .i64 (a.ns.length : Int)) := ev_old hA ea10 rfl rfl
            clear hA
            refine ChStep.pure (o := _) (v := (.int .i64 (a.ns.length : Int))) rfl rfl rfl (fun W2 hS2 => ?_) rfl
            have ev0 := ev_raw ev0
            go_simp
        · simp only [List.getElem?_cons_zero, List.getElem?_cons_succ, Option.some.injEq] at h3 h4
          subst h3 h4
          match rs, h1, hF with
          | [r0, r1], _, hF =>
            clear hF
            show ChStep _ _ _ _ _ true _ _ _ _
            generalize hA : pup _ _ bs = A
            have ev0 : A.eval (.tmp 11) = (.int .i64 (a.es.length : Int)) := ev_old hA ea11 rfl rfl
            clear hA
            refine ChStep.pure (o := _) (v := (.int .i64 (a.es.length : Int))) rfl rfl rfl (fun W2 hS2 => ?_) rfl
            have ev0 := ev_raw ev0
            go_simp
        · simp only [List.getElem?_cons_zero, List.getElem?_cons_succ, Option.some.injEq] at h3 h4
          subst h3 h4
          match rs, h1, hF with
          | [r0, r1, r2], _, hF =>
            clear hF
            show ChStep _ _ _ _ _ true _ _ _ _
            generalize hA : pup _ _ bs = A
            have ev0 : A.eval (.tmp 10) = (.int .i64 (a.ns.length : Int)) := ev_old hA ea10 rfl rfl
            clear hA
            refine ChStep.pure (o := _) (v := (.int .i64 (a.ns.length : Int))) rfl rfl rfl (fun W2 hS2 => ?_) rfl
            have ev0 := ev_raw ev0
            go_simp
        · simp only [List.getElem?_cons_zero, List.getElem?_cons_succ, Option.some.injEq] at h3 h4
          subst h3 h4
          match rs, h1, hF with
          | [r0, r1, r2, r3], _, hF =>
            clear hF
            show ChStep _ _ _ _ _ true _ _ _ _
            generalize hA : pup _ _ bs = A
            have ev0 : A.eval (.tmp 3) = (.pointer (some ⟨w.heap.size + 1, 0, none⟩)) := ev_old hA ea3 rfl rfl
            clear hA
            refine ChStep.pure (o := _) (v := (.pointer (some ⟨w.heap.size + 1, 0, none⟩))) rfl rfl rfl (fun W2 hS2 => ?_) rfl
            have ev0 := ev_raw ev0
            go_simp
        · simp only [List.getElem?_cons_zero, List.getElem?_cons_succ, Option.some.injEq] at h3 h4
          subst h3 h4
          match rs, h1, hF with
          | [r0, r1, r2, r3, r4], _, hF =>
            have k4 := hF 4 _ rfl
            obtain rfl : r4 = (.pointer (some ⟨w.heap.size + 1, 0, none⟩)) := k4
            clear hF
            show ChStep _ _ _ _ _ true _ _ _ _
            generalize hA : pup _ _ bs = A
            have ev0 : A.eval (.tmp 97) = (.pointer (some ⟨w.heap.size + 1, 0, none⟩)) := ev_new hA 4 (by decide) rfl rfl (by omega) rfl
            clear hA
            refine ChStep.pure (o := _) (v := (.slice Bn b.ns.length dn)) rfl rfl rfl (fun W2 hS2 => ?_) rfl
            obtain ⟨q0, q1⟩ := hS2.x.b1.cells
            have ev0 := ev_raw ev0
            go_simp
        · simp only [List.getElem?_cons_zero, List.getElem?_cons_succ, Option.some.injEq] at h3 h4
          subst h3 h4
          match rs, h1, hF with
          | [r0, r1, r2, r3, r4, r5], _, hF =>
            have k5 := hF 5 _ rfl
            obtain rfl : r5 = (.slice Bn b.ns.length dn) := k5
            clear hF
            show ChStep _ _ _ _ _ true _ _ _ _
            generalize hA : pup _ _ bs = A
            have ev0 : A.eval (.tmp 98) = (.slice Bn b.ns.length dn) := ev_new hA 5 (by decide) rfl rfl (by omega) rfl
            clear hA
            refine ChStep.pure (o := _) (v := (.int .i64 (b.ns.length : Int))) rfl rfl rfl (fun W2 hS2 => ?_) rfl
            have ev0 := ev_raw ev0
            go_simp
        · simp only [List.getElem?_cons_zero, List.getElem?_cons_succ, Option.some.injEq] at h3 h4
          subst h3 h4
          match rs, h1, hF with
          | [r0, r1, r2, r3, r4, r5, r6], _, hF =>
            clear hF
            show ChStep _ _ _ _ _ true _ _ _ _
            generalize hA : pup _ _ bs = A
            have ev0 : A.eval (.tmp 11) = (.int .i64 (a.es.length : Int)) := ev_old hA ea11 rfl rfl
            clear hA
            refine ChStep.pure (o := _) (v := (.int .i64 (a.es.length : Int))) rfl rfl rfl (fun W2 hS2 => ?_) rfl
            have ev0 := ev_raw ev0
            go_simp
        · simp only [List.getElem?_cons_zero, List.getElem?_cons_succ, Option.some.injEq] at h3 h4
          subst h3 h4
          match rs, h1, hF with
          | [r0, r1, r2, r3, r4, r5, r6, r7], _, hF =>
            clear hF
            show ChStep _ _ _ _ _ true _ _ _ _
            generalize hA : pup _ _ bs = A
            have ev0 : A.eval (.tmp 3) = (.pointer (some ⟨w.heap.size + 1, 0, none⟩)) := ev_old hA ea3 rfl rfl
            clear hA
            refine ChStep.pure (o := _) (v := (.pointer (some ⟨w.heap.size + 1, 1, none⟩))) rfl rfl rfl (fun W2 hS2 => ?_) rfl
            have ev0 := ev_raw ev0
            go_simp
        · simp only [List.getElem?_cons_zero, List.getElem?_cons_succ, Option.some.injEq] at h3 h4
          subst h3 h4
          match rs, h1, hF with
          | [r0, r1, r2, r3, r4, r5, r6, r7, r8], _, hF =>
            have k8 := hF 8 _ rfl
            obtain rfl : r8 = (.pointer (some ⟨w.heap.size + 1, 1, none⟩)) := k8
            clear hF
            show ChStep _ _ _ _ _ true _ _ _ _
            generalize hA : pup _ _ bs = A
            have ev0 : A.eval (.tmp 102) = (.pointer (some ⟨w.heap.size + 1, 1, none⟩)) := ev_new hA 8 (by decide) rfl rfl (by omega) rfl
            clear hA
            refine ChStep.pure (o := _) (v := (.slice Be b.es.length de)) rfl rfl rfl (fun W2 hS2 => ?_) rfl
            obtain ⟨q0, q1⟩ := hS2.x.b1.cells
            have ev0 := ev_raw ev0
            go_simp
        · simp only [List.getElem?_cons_zero, List.getElem?_cons_succ, Option.some.injEq] at h3 h4
          subst h3 h4
          match rs, h1, hF with
          | [r0, r1, r2, r3, r4, r5, r6, r7, r8, r9], _, hF =>
            have k9 := hF 9 _ rfl
            obtain rfl : r9 = (.slice Be b.es.length de) := k9
            clear hF
            show ChStep _ _ _ _ _ true _ _ _ _
            generalize hA : pup _ _ bs = A
            have ev0 : A.eval (.tmp 103) = (.slice Be b.es.length de) := ev_new hA 9 (by decide) rfl rfl (by omega) rfl
            clear hA
            refine ChStep.pure (o := _) (v := (.int .i64 (b.es.length : Int))) rfl rfl rfl (fun W2 hS2 => ?_) rfl
            have ev0 := ev_raw ev0
            go_simp
        · simp only [List.getElem?_cons_zero, List.getElem?_cons_succ, Option.some.injEq] at h3 h4
          subst h3 h4
          match rs, h1, hF with
          | [r0, r1, r2, r3, r4, r5, r6, r7, r8, r9, r10], _, hF =>
            have k1 := hF 1 _ rfl
            obtain rfl : r1 = (.int .i64 (a.ns.length : Int)) := k1
            clear hF
            show ChStep _ _ _ _ _ false _ _ _ _
            generalize hA : pup _ _ bs = A
            have ev0 : A.eval (.tmp 91) = (.int .i64 (a.ns.length : Int)) := ev_new hA 1 (by decide) rfl rfl (by omega) rfl
            clear hA
            refine ChStep.call (o := _) (f := 35) (xs := _) (ts := _) (args := #[(.int .i64 0), (.int .i64 (a.ns.length : Int))]) rfl rfl rfl rfl (by simp only [List.map_toArray, List.map_cons, List.map_nil, ev_const, ev0]) (by kernel_rfl) ?_
            exact (numbersR_any 0 a.ns.length W (by omega) (by omega) (by omega)).mono fun e w2 ⟨v, he, ho, hb⟩ => ⟨⟨v, he, OwnE.mono ho hS.s⟩, hb⟩
        · simp only [List.getElem?_cons_zero, List.getElem?_cons_succ, Option.some.injEq] at h3 h4
          subst h3 h4
          match rs, h1, hF with
          | [r0, r1, r2, r3, r4, r5, r6, r7, r8, r9, r10, r11], _, hF =>
            have k2 := hF 2 _ rfl
            obtain rfl : r2 = (.int .i64 (a.es.length : Int)) := k2
            clear hF
            show ChStep _ _ _ _ _ false _ _ _ _
            generalize hA : pup _ _ bs = A
            have ev0 : A.eval (.tmp 93) = (.int .i64 (a.es.length : Int)) := ev_new hA 2 (by decide) rfl rfl (by omega) rfl
            clear hA
            refine ChStep.call (o := _) (f := 35) (xs := _) (ts := _) (args := #[(.int .i64 0), (.int .i64 (a.es.length : Int))]) rfl rfl rfl rfl (by simp only [List.map_toArray, List.map_cons, List.map_nil, ev_const, ev0]) (by kernel_rfl) ?_
            exact (numbersR_any 0 a.es.length W (by omega) (by omega) (by omega)).mono fun e w2 ⟨v, he, ho, hb⟩ => ⟨⟨v, he, OwnE.mono ho hS.s⟩, hb⟩
        · simp only [List.getElem?_cons_zero, List.getElem?_cons_succ, Option.some.injEq] at h3 h4
          subst h3 h4
          match rs, h1, hF with
          | [r0, r1, r2, r3, r4, r5, r6, r7, r8, r9, r10, r11, r12], _, hF =>
            have k11 := hF 11 _ rfl
            have k12 := hF 12 _ rfl
            obtain ⟨A1, c1, rfl⟩ := OwnE.slice k11
            obtain ⟨A2, c2, rfl⟩ := OwnE.slice k12
            clear hF
            show ChStep _ _ _ _ _ true _ _ _ _
            generalize hA : pup _ _ bs = A
            have ev0 : A.eval (.tmp 92) = (.slice A1 (numS 0 a.ns.length).length c1) := ev_new hA 11 (by decide) rfl rfl (by omega) rfl
            have ev1 : A.eval (.tmp 94) = (.slice A2 (numS 0 a.es.length).length c2) := ev_new hA 12 (by decide) rfl rfl (by omega) rfl
            clear hA
            refine ChStep.pure (o := _) (v := (.agg #[.slice A1 (numS 0 a.ns.length).length c1, .slice A2 (numS 0 a.es.length).length c2])) rfl rfl rfl (fun W2 hS2 => ?_) ⟨_, _, rfl, k11, k12⟩
            have ev0 := ev_raw ev0
            have ev1 := ev_raw ev1
            go_simp
        · simp only [List.getElem?_cons_zero, List.getElem?_cons_succ, Option.some.injEq] at h3 h4
          subst h3 h4
          match rs, h1, hF with
          | [r0, r1, r2, r3, r4, r5, r6, r7, r8, r9, r10, r11, r12, r13], _, hF =>
            have k6 := hF 6 _ rfl
            have k3 := hF 3 _ rfl
            obtain rfl : r6 = (.int .i64 (b.ns.length : Int)) := k6
            obtain rfl : r3 = (.int .i64 (a.ns.length : Int)) := k3
            clear hF
            show ChStep _ _ _ _ _ false _ _ _ _
            generalize hA : pup _ _ bs = A
            have ev0 : A.eval (.tmp 99) = (.int .i64 (b.ns.length : Int)) := ev_new hA 6 (by decide) rfl rfl (by omega) rfl
            have ev1 : A.eval (.tmp 96) = (.int .i64 (a.ns.length : Int)) := ev_new hA 3 (by decide) rfl rfl (by omega) rfl
            clear hA
            refine ChStep.call (o := _) (f := 35) (xs := _) (ts := _) (args := #[(.int .i64 (a.ns.length : Int)), (.int .i64 (b.ns.length : Int))]) rfl rfl rfl rfl (by simp only [List.map_toArray, List.map_cons, List.map_nil, ev0, ev1]) (by kernel_rfl) ?_
            exact (numbersR_any a.ns.length b.ns.length W (by omega) (by omega) (by omega)).mono fun e w2 ⟨v, he, ho, hb⟩ => ⟨⟨v, he, OwnE.mono ho hS.s⟩, hb⟩
        · simp only [List.getElem?_cons_zero, List.getElem?_cons_succ, Option.some.injEq] at h3 h4
          subst h3 h4
          match rs, h1, hF with
          | [r0, r1, r2, r3, r4, r5, r6, r7, r8, r9, r10, r11, r12, r13, r14], _, hF =>
            have k10 := hF 10 _ rfl
            have k7 := hF 7 _ rfl
            obtain rfl : r10 = (.int .i64 (b.es.length : Int)) := k10
            obtain rfl : r7 = (.int .i64 (a.es.length : Int)) := k7
            clear hF
            show ChStep _ _ _ _ _ false _ _ _ _
            generalize hA : pup _ _ bs = A
            have ev0 : A.eval (.tmp 104) = (.int .i64 (b.es.length : Int)) := ev_new hA 10 (by decide) rfl rfl (by omega) rfl
            have ev1 : A.eval (.tmp 101) = (.int .i64 (a.es.length : Int)) := ev_new hA 7 (by decide) rfl rfl (by omega) rfl
            clear hA
            refine ChStep.call (o := _) (f := 35) (xs := _) (ts := _) (args := #[(.int .i64 (a.es.length : Int)), (.int .i64 (b.es.length : Int))]) rfl rfl rfl rfl (by simp only [List.map_toArray, List.map_cons, List.map_nil, ev0, ev1]) (by kernel_rfl) ?_
            exact (numbersR_any a.es.length b.es.length W (by omega) (by omega) (by omega)).mono fun e w2 ⟨v, he, ho, hb⟩ => ⟨⟨v, he, OwnE.mono ho hS.s⟩, hb⟩
        · simp only [List.getElem?_cons_zero, List.getElem?_cons_succ, Option.some.injEq] at h3 h4
          subst h3 h4
          match rs, h1, hF with
          | [r0, r1, r2, r3, r4, r5, r6, r7, r8, r9, r10, r11, r12, r13, r14, r15], _, hF =>
            have k14 := hF 14 _ rfl
            have k15 := hF 15 _ rfl
            obtain ⟨A1, c1, rfl⟩ := OwnE.slice k14
            obtain ⟨A2, c2, rfl⟩ := OwnE.slice k15
            clear hF
            show ChStep _ _ _ _ _ true _ _ _ _
            generalize hA : pup _ _ bs = A
            have ev0 : A.eval (.tmp 100) = (.slice A1 (numS a.ns.length b.ns.length).length c1) := ev_new hA 14 (by decide) rfl rfl (by omega) rfl
            have ev1 : A.eval (.tmp 105) = (.slice A2 (numS a.es.length b.es.length).length c2) := ev_new hA 15 (by decide) rfl rfl (by omega) rfl
            clear hA
            refine ChStep.pure (o := _) (v := (.agg #[.slice A1 (numS a.ns.length b.ns.length).length c1, .slice A2 (numS a.es.length b.es.length).length c2])) rfl rfl rfl (fun W2 hS2 => ?_) ⟨_, _, rfl, k14, k15⟩
            have ev0 := ev_raw ev0
            have ev1 := ev_raw ev1
            go_simp
      case fin =>
        intro rs ks W h1 h2 hS hF hok hbW
        match rs, h1, hF with
        | [r0, r1, r2, r3, r4, r5, r6, r7, r8, r9, r10, r11, r12, r13, r14, r15, r16], _, hF =>
          obtain rfl : r0 = .agg #[.slice an nn.length kn, .slice aE (cE b.es.length).length capE] := hF 0 _ rfl
          obtain ⟨u1, v1, rfl, o1, o2⟩ := hF 13 _ rfl
          obtain ⟨u2, v2, rfl, o3, o4⟩ := hF 16 _ rfl
          obtain ⟨a2, k2, rfl⟩ := OwnE.slice o1
          obtain ⟨a3, k3, rfl⟩ := OwnE.slice o2
          obtain ⟨a4, k4, rfl⟩ := OwnE.slice o3
          obtain ⟨a5, k5, rfl⟩ := OwnE.slice o4
          have O1 := Lib.hid o1
          have O2 := Lib.hid o2
          have O3 := Lib.hid o3
          have O4 := Lib.hid o4
          clear hF o1 o2 o3 o4
          match ks, h2, hok with
          | [], _, _ =>
          have hl5 := hS.x.lt
          have U1 := Lib.hid (hS.st (.inl rfl) z3 hbg (.slice an nn.length kn) (.slice aE (cE b.es.length).length capE))
          have U2 := Lib.hid (U1.out.st (.inr (.inl rfl)) z3 hbg (.slice a2 (numS 0 a.ns.length).length k2) (.slice a3 (numS 0 a.es.length).length k3))
          have U3 := Lib.hid (U2.out.st (.inr (.inr rfl)) z3 hbg (.slice a4 (numS a.ns.length b.ns.length).length k4) (.slice a5 (numS a.es.length b.es.length).length k5))
          obtain ⟨⟨p0, p1⟩, f0, f1⟩ := hS.x.r2.sto
          obtain ⟨⟨p2, p3⟩, f2, f3⟩ := hS.x.r3.sto
          obtain ⟨⟨p4, p5⟩, f4, f5⟩ := hS.x.r4.sto
          have x2 : w.heap.size + 2 < W.heap.size := by omega
          have x3 : w.heap.size + 3 < W.heap.size := by omega
          have x4 : w.heap.size + 4 < W.heap.size := by omega
          have HS := Lib.hid hS
          clear ea3 ea10 ea11 ea12 hsz0 hHeld hS hbW
          subst ha0
          simp only [pud, pup, List.map_nil, Act.put, List.setIfInBounds_toArray, List.set_cons_zero, List.set_cons_succ]
          refine wpAnyH_ready (rs := [17]) (by kernel_rfl) (by simp) ?_
          refine AllReadyH.cons (op_at (r := _) rfl) (fun K hK => ?_) AllReadyH.nil
          go_simp
          refine hK.out _ _ U1.out (fun _ => ?_)
          clear hK K
          try simp only [Act.put, List.setIfInBounds_toArray, List.set_cons_zero, List.set_cons_succ]
          refine wpAnyH_ready (rs := [18]) (by kernel_rfl) (by simp) ?_
          refine AllReadyH.cons (op_at (r := _) rfl) (fun K hK => ?_) AllReadyH.nil
          go_simp
          refine hK.out _ _ U2.out (fun _ => ?_)
          clear hK K
          try simp only [Act.put, List.setIfInBounds_toArray, List.set_cons_zero, List.set_cons_succ]
          refine wpAnyH_ready (rs := [19]) (by kernel_rfl) (by simp) ?_
          refine AllReadyH.cons (op_at (r := _) rfl) (fun K hK => ?_) AllReadyH.nil
          go_simp
          refine hK.out _ _ U3.out (fun _ => ?_)
          clear hK K
          try simp only [Act.put, List.setIfInBounds_toArray, List.set_cons_zero, List.set_cons_succ]
          refine wpAnyH_take (i := 20) (v := ?_) (op_at (r := _) rfl) (by kernel_rfl) (by kernel_rfl) (by kernel_rfl) (fun _ _ _ h => h) (Or.inl ⟨by rfl, ?_⟩) U3.out ?_
          rotate_left
          · intro w hSw
            go_simp
            try with_reducible rfl
          try simp only [Act.put, List.setIfInBounds_toArray, List.set_cons_zero, List.set_cons_succ]
          refine wpAnyH_done (by kernel_rfl) ?_ _
          refine NoPanic.normal ?_
          go_wp2_with fail
          obtain ⟨hbb, ⟨r0, r1⟩, ⟨r2, r3⟩, ⟨r4, r5⟩⟩ := UX.store HS.out.x (.slice an nn.length kn) (.slice aE (cE b.es.length).length capE) (.slice a2 (numS 0 a.ns.length).length k2) (.slice a3 (numS 0 a.es.length).length k3) (.slice a4 (numS a.ns.length b.ns.length).length k4) (.slice a5 (numS a.es.length b.es.length).length k5)
          have hi1 := (OwnZ.set6 HS.out.n z3 (.slice an nn.length kn) (.slice aE (cE b.es.length).length capE) (.slice a2 (numS 0 a.ns.length).length k2) (.slice a3 (numS 0 a.es.length).length k3) (.slice a4 (numS a.ns.length b.ns.length).length k4) (.slice a5 (numS a.es.length b.es.length).length k5)).reads_cap
          have hi2 := (OwnZ.set6 HS.out.e z3 (.slice an nn.length kn) (.slice aE (cE b.es.length).length capE) (.slice a2 (numS 0 a.ns.length).length k2) (.slice a3 (numS 0 a.es.length).length k3) (.slice a4 (numS a.ns.length b.ns.length).length k4) (.slice a5 (numS a.es.length b.es.length).length k5)).reads_cap
          have hi3 := isI_own (OwnE.set6 O1.out (h := w.heap.size) z3 (.slice an nn.length kn) (.slice aE (cE b.es.length).length capE) (.slice a2 (numS 0 a.ns.length).length k2) (.slice a3 (numS 0 a.es.length).length k3) (.slice a4 (numS a.ns.length b.ns.length).length k4) (.slice a5 (numS a.es.length b.es.length).length k5))
          have hi4 := isI_own (OwnE.set6 O2.out (h := w.heap.size) z3 (.slice an nn.length kn) (.slice aE (cE b.es.length).length capE) (.slice a2 (numS 0 a.ns.length).length k2) (.slice a3 (numS 0 a.es.length).length k3) (.slice a4 (numS a.ns.length b.ns.length).length k4) (.slice a5 (numS a.es.length b.es.length).length k5))
          have hi5 := isI_own (OwnE.set6 O3.out (h := w.heap.size) z3 (.slice an nn.length kn) (.slice aE (cE b.es.length).length capE) (.slice a2 (numS 0 a.ns.length).length k2) (.slice a3 (numS 0 a.es.length).length k3) (.slice a4 (numS a.ns.length b.ns.length).length k4) (.slice a5 (numS a.es.length b.es.length).length k5))
          have hi6 := isI_own (OwnE.set6 O4.out (h := w.heap.size) z3 (.slice an nn.length kn) (.slice aE (cE b.es.length).length capE) (.slice a2 (numS 0 a.ns.length).length k2) (.slice a3 (numS 0 a.es.length).length k3) (.slice a4 (numS a.ns.length b.ns.length).length k4) (.slice a5 (numS a.es.length b.es.length).length k5))
          refine bodyPost_ret (v := .tuple #[gval an nn.length kn aE (cE b.es.length).length capE, gval a2 (numS 0 a.ns.length).length k2 a3 (numS 0 a.es.length).length k3, gval a4 (numS a.ns.length b.ns.length).length k4 a5 (numS a.es.length b.es.length).length k5, .int .i64 0]) (by simp [results, Try.results26, go_sem, r0, r1, r2, r3, r4, r5]) rfl ?_
          exact ⟨⟨_, _, _, rfl, by rw [HG2.out, ← HNN.out, ← HCF.out]; exact isG_of (g := ⟨nn, cE b.es.length⟩) hi1 hi2, by rw [HM2.out]; exact isM_of (g := ⟨numS 0 a.ns.length, numS 0 a.es.length⟩) hi3 hi4, by rw [HN2.out]; exact isM_of (g := ⟨numS a.ns.length b.ns.length, numS a.es.length b.es.length⟩) hi5 hi6⟩, hbb⟩

end Go.Proofs.Ytiafmhdicgmfaaa
