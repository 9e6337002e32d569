/-
  Types, the program: Attrs.
-/
import Derived.Test.YtgpcaofikmdpjaaQTop
namespace Go.Proofs.Ytgpcaofikmdpjaa
open Go.RowKit

/-- raw attributes whose names lie below B0 or in rows of the call's own -/
def RawMix (w : World) (B0 base : Nat) (ys : List RAtt) (xs : List Att) : Prop := ys.length = xs.length ∧ ∀ (i : Nat) (y : RAtt) (x : Att), ys[i]? = some y → xs[i]? = some x → (y.nm = x.nm ∧ y.lo = x.lo ∧ y.hi = x.hi ∧ y.n = x.ns.length ∧ x.ns.length ≤ y.c) ∧ (Strs w B0 y.A x.ns ∨ OwnS w base (.slice y.A y.n y.c) x.ns)
theorem RawRel.mix {w : World} {B0 base : Nat} {ys : List RAtt} {xs : List Att} (h : RawRel w B0 ys xs) : RawMix w B0 base ys xs := ⟨h.1, fun i y x h1 h2 => by
  obtain ⟨A', c', e, hr, hc⟩ := h.2 i y x h1 h2
  obtain ⟨nm, lo, hi, A, n, c⟩ := y
  simp only [ERaw, List.cons.injEq, Value.string.injEq, Value.int.injEq, Value.slice.injEq, and_true, true_and] at e
  obtain ⟨e1, e2, e3, e4, e5, e6⟩ := e
  subst e4 e5 e6
  exact ⟨⟨e1, e2, e3, rfl, hc⟩, .inl hr⟩⟩
theorem RawMix.below {w w' : World} {B0 base B : Nat} {ys : List RAtt} {xs : List Att} (h : RawMix w B0 base ys xs) (hb : Below B w w') (h0 : B0 ≤ B) (hB : w.heap.size ≤ B) : RawMix w' B0 base ys xs := ⟨h.1, fun i y x h1 h2 => by
  obtain ⟨a, b⟩ := h.2 i y x h1 h2
  rcases b with b | b
  · exact ⟨a, .inl (Reads.below b (hb.mono h0))⟩
  · exact ⟨a, .inr (OwnE.below b hb hB)⟩⟩
theorem RawMix.store {w : World} {B0 base g o : Nat} {u : Value} {ys zs : List RAtt} {xs : List Att} {c n : Nat} (h : RawMix w B0 base ys xs) (hg : B0 ≤ g) (ho : OwnR w base (.slice (some ⟨g, 0, none⟩) n c) zs) : RawMix (w.setCell ⟨g, o, none⟩ u) B0 base ys xs := ⟨h.1, fun i y x h1 h2 => by
  obtain ⟨a, b⟩ := h.2 i y x h1 h2
  rcases b with b | b
  · exact ⟨a, .inl (Reads.below b ((Below.refl _ _).setCell (p := ⟨g, o, none⟩) hg _))⟩
  · exact ⟨a, .inr (OwnE.kept b (grown_set _ _ _ _) (own_apart (v := .slice (some ⟨g, 0, none⟩) n c) (by decide) b ho))⟩⟩
theorem RawMix.rel {w : World} {B0 base : Nat} {ys : List RAtt} {xs : List Att} (h : RawMix w B0 base ys xs) (h0 : B0 ≤ w.heap.size) : RawRel w w.heap.size ys xs := ⟨h.1, fun i y x h1 h2 => by
  obtain ⟨⟨a1, a2, a3, a4, a5⟩, b⟩ := h.2 i y x h1 h2
  obtain ⟨nm, lo, hi, A, n, c⟩ := y
  dsimp only at a1 a2 a3 a4 a5 b
  subst a1 a2 a3 a4
  rcases b with b | b
  · exact ⟨A, c, rfl, Reads.mono b h0, a5⟩
  · obtain ⟨A', c', e, hr⟩ := OwnE.reads b
    simp only [Value.slice.injEq] at e
    obtain ⟨rfl, _, rfl⟩ := e
    exact ⟨A, c, rfl, hr, a5⟩⟩
theorem RawMix.set {w : World} {B0 base : Nat} {ys : List RAtt} {xs : List Att} (h : RawMix w B0 base ys xs) {k : Nat} (hk : k < ys.length) (hx : k < xs.length) {A : Option Addr} {n c : Nat} (hn : n = xs[k].ns.length) (hc : xs[k].ns.length ≤ c) (ho : OwnS w base (.slice A n c) xs[k].ns) :
    RawMix w B0 base (ys.set k ⟨ys[k].nm, ys[k].lo, ys[k].hi, A, n, c⟩) xs := ⟨by rw [List.length_set]; exact h.1, fun i y x h1 h2 => by
  rw [List.getElem?_set] at h1
  by_cases e : k = i
  · subst e
    rw [if_pos rfl, if_pos hk] at h1
    cases h1
    have e2 : x = xs[k] := by rw [List.getElem?_eq_getElem hx] at h2; exact (Option.some.inj h2).symm
    subst e2
    obtain ⟨⟨a1, a2, a3, _, _⟩, _⟩ := h.2 k ys[k] xs[k] (List.getElem?_eq_getElem hk) h2
    exact ⟨⟨a1, a2, a3, hn, hc⟩, .inr ho⟩
  · rw [if_neg e] at h1
    exact h.2 i y x h1 h2⟩
theorem raw_set : ∀ (ys : List RAtt) (k : Nat) (hk : k < ys.length) (A : Option Addr) (n c : Nat), cellsE ERaw (ys.set k ⟨ys[k].nm, ys[k].lo, ys[k].hi, A, n, c⟩) = (cellsE ERaw ys).set (k * 4 + 3) (.slice A n c) := by
  intro ys
  induction ys with
  | nil => intro k hk; simp at hk
  | cons y ys ih =>
    intro k hk A n c
    cases k with
    | zero => rfl
    | succ k =>
      have hk' : k < ys.length := by simpa using hk
      have e : cellsE ERaw (y :: ys) = ERaw.enc y ++ cellsE ERaw ys := rfl
      rw [List.set_cons_succ, e, List.set_append_right _ _ (by rw [ERaw.len, show ERaw.size = 4 from rfl]; omega), ERaw.len, show ERaw.size = 4 from rfl, show (k + 1) * 4 + 3 - 4 = k * 4 + 3 by omega, ← ih k hk' A n c]
      rfl
theorem OwnR.set {w : World} {base g cc m : Nat} {ys : List RAtt} (hm : m = ys.length) (h : OwnR w base (.slice (some ⟨g, 0, none⟩) m cc) ys) {k : Nat} (hk : k < ys.length) (A : Option Addr) (n c : Nat) :
    OwnR (w.setCell ⟨g, k * 4 + 3, none⟩ (.slice A n c)) base (.slice (some ⟨g, 0, none⟩) m cc) (ys.set k ⟨ys[k].nm, ys[k].lo, ys[k].hi, A, n, c⟩) := by
  subst hm
  have := (World.ownsRow.stored h (k * 4 + 3) (.slice A n c)).1
  unfold OwnR OwnE
  rw [List.length_set, raw_set]
  exact this

set_option maxRecDepth 100000 in
set_option maxHeartbeats 4000000 in
theorem attP_any (hn : NameC 60) : AttC 21 := by
  intro t An cn Ae ce a w hf hcap _ hT
  have HG := Lib.hid (check1 hn t An cn Ae ce a w hf hcap hT)
  have HT := Lib.hid hT
  have HX : Hid (attR t a = if givenE t a a = 0 then attL t a else []) := Lib.hid rfl
  have HSM := Lib.hid (attL_small hf a)
  have hn20 := hf.nodes
  have hatt : ∀ x ∈ t.nodes, x.att.length ≤ 30 := fun x hx => (hf.node x hx).2.1
  clear hT hn hf hcap
  generalize attR t a = R at HX ⊢
  by_cases hg : givenE t a a = 0
  · have hG := giv_of hg
    have HAT := Lib.hid (fun u (hu : TyC u An Ae t) => attributes_any t An t.nodes.length cn hG.val.good (Nat.le_refl _) hn20 hatt a u.heap.size u (by have := hG.a0; omega) hG.a1 (Nat.le_refl _) hu.1)
    have hlen := attL_len hatt (show a ≤ 20 by have := hG.a1; omega)
    rw [hg] at HG ⊢
    have HX2 : Hid (R = attL t a) := Lib.hid (by rw [HX.out, if_pos hg])
    generalize attL t a = L at *
    generalize hN : t.nodes.length = N at *
    generalize t.edges.length = M at *
    clear HX hG hg hN hatt
    go_enter Try.func21, Try.ntmps21
    go_wp2_with fail
    with_reducible refine HG.out.mono ?_
    rintro e w1 ⟨rfl, hb1⟩
    obtain ⟨c0, c1⟩ := twoB_cell hb1
    have HB1 := Lib.hid (twoB_below hb1)
    clear hb1
    go_wp2_with fail
    refine (HAT.out _ (HT.out.up HB1.out)).mono ?_
    rintro e w2 ⟨⟨v, ys0, rfl, ho, hr⟩, hb2⟩
    obtain ⟨Ao, co, rfl⟩ := OwnE.slice ho
    obtain ⟨p, hp⟩ : ∃ p, p = ys0.length := ⟨_, rfl⟩
    rw [← hp] at ho ⊢
    have HP := Lib.hid hp
    have hpl : p = L.length := by rw [hp]; exact hr.1
    have HPL := Lib.hid hpl
    have hp630 : p ≤ 630 := by omega
    have HO := Lib.hid ho
    have HR := Lib.hid (hr.mix (base := w1.heap.size))
    have HB2 := Lib.hid (HB1.out.trans (hb2.mono HB1.out.size))
    have hz12 : w1.heap.size ≤ w2.heap.size := hb2.size
    clear ho hr hb2 hp hpl c0 c1
    go_wp2_with fail
    go_loopw [22] (fun vi wr => (∃ (i : Nat) (ys : List RAtt), i ≤ p ∧ vi = .int .i64 i ∧ OwnR wr w1.heap.size (.slice Ao p co) ys ∧ p = ys.length ∧ RawMix wr w1.heap.size w1.heap.size ys L) ∧ Below w.heap.size w wr ∧ w1.heap.size ≤ wr.heap.size) (fun vi _ => p - (intOf vi).toNat)
    case atStart => exact ⟨⟨0, ys0, Nat.zero_le _, rfl, HO.out, HP.out, HR.out⟩, HB2.out, hz12⟩
    case round =>
      obtain ⟨⟨i, ys, hi, rfl, hown, hlen2, hraw⟩, hB, hz⟩ := hrel
      clear HO HR
      by_cases hlt : i < p
      · have t1 : decide ((i : Int) < (p : Int)) = true := decide_eq_true (by omega)
        have hiy : i < ys.length := by omega
        have hil : i < L.length := by have := HPL.out; omega
        have hown' := hown
        rw [hlen2] at hown'
        obtain ⟨g, cc, e1, hg1, hg2⟩ := OwnE.pos hown' (by omega)
        simp only [Value.slice.injEq] at e1
        obtain ⟨rfl, _, rfl⟩ := e1
        obtain ⟨⟨s1, s2, s3, s4, s5⟩, hst⟩ := hraw.2 i ys[i] L[i] (List.getElem?_eq_getElem hiy) (List.getElem?_eq_getElem hil)
        have hlk : L[i].ns.length ≤ 25 := (HSM.out _ (List.getElem_mem hil)).2.1
        have k3 : wr.cell? ⟨g, i * 4 + 3, none⟩ = some (.slice ys[i].A L[i].ns.length ys[i].c) := by
          obtain ⟨A5, c5, e5, r5⟩ := OwnE.reads hown'
          simp only [Value.slice.injEq] at e5
          obtain ⟨b6, off6, e6, _, h6⟩ := Reads.at r5 hiy
          rw [← e5.1] at e6
          injection e6 with e6
          injection e6 with e7 e8 _
          subst e7 e8
          have := h6 i hiy 3 _ rfl
          rw [show ERaw.size = 4 from rfl, Nat.zero_add] at this
          rw [this, s4]
        have hstr : Strs wr wr.heap.size ys[i].A L[i].ns := by
          rcases hst with h | h
          · exact Reads.mono h hz
          · obtain ⟨A', c', e, hr⟩ := OwnE.reads h
            simp only [Value.slice.injEq] at e
            rw [e.1]
            exact hr
        have HCL := Lib.hid (clone_any L[i].ns ys[i].A ys[i].c wr.heap.size wr (by omega) (Nat.le_refl _) hstr)
        have HSET : Hid (∀ (u : World) (A2 : Option Addr) (n2 c2 : Nat), OwnR u w1.heap.size (.slice (some ⟨g, 0, none⟩) p co) ys → RawMix u w1.heap.size w1.heap.size ys L → n2 = L[i].ns.length → OwnS u w1.heap.size (.slice A2 n2 c2) L[i].ns → ∃ zs, OwnR (u.setCell ⟨g, i * 4 + 3, none⟩ (.slice A2 n2 c2)) w1.heap.size (.slice (some ⟨g, 0, none⟩) p co) zs ∧ p = zs.length ∧ RawMix (u.setCell ⟨g, i * 4 + 3, none⟩ (.slice A2 n2 c2)) w1.heap.size w1.heap.size zs L) := Lib.hid fun u A2 n2 c2 hu hm hn2 ho => by
          refine ⟨_, OwnR.set hlen2 hu hiy A2 n2 c2, by rw [List.length_set]; exact hlen2, ?_⟩
          exact (hm.set hiy hil hn2 (OwnE.cap ho) ho).store hg1 hu
        obtain ⟨q, hq⟩ : ∃ q, q = L[i].ns.length := ⟨_, rfl⟩
        rw [← hq] at k3 HCL
        have HQ := Lib.hid hq
        have HO := Lib.hid hown
        have HRW := Lib.hid hraw
        have HB := Lib.hid hB
        have f3 : wr.frozen? ⟨g, i * 4 + 3, none⟩ = false := by
          rw [hlen2] at hown
          exact World.ownsRow.frozenAt hown (i * 4 + 3)
        have i0 : (0 : Int) ≤ (i : Int) := by omega
        have i1 : (i : Int) < (p : Int) := by omega
        have i2 : ((i : Int)).toNat = i := by omega
        have HLI : Hid (p = ys.length) := Lib.hid hlen2
        generalize L[i].ns = ns at *
        generalize ys[i].A = A3 at *
        generalize ys[i].c = c3 at *
        clear hown hown' hraw hB hst hstr s1 s2 s3 s4 s5 hlen2 hq
        go_wp2_with fail
        refine HCL.out.mono ?_
        rintro e w3 ⟨⟨v3, rfl, ho3⟩, hb3⟩
        obtain ⟨A2, c2, rfl⟩ := OwnE.slice ho3
        have HO3 := Lib.hid (OwnE.mono ho3 hz)
        have HOR : Hid (OwnR w3 w1.heap.size (.slice (some ⟨g, 0, none⟩) p co) ys) := Lib.hid (HO.out.below hb3 (Nat.le_refl _))
        have HRM : Hid (RawMix w3 w1.heap.size w1.heap.size ys L) := Lib.hid (HRW.out.below hb3 hz (Nat.le_refl _))
        have HB3 := Lib.hid (HB.out.trans (hb3.mono HB.out.size))
        have hz3 : w1.heap.size ≤ w3.heap.size := Nat.le_trans hz hb3.size
        have f4 : w3.frozen? ⟨g, i * 4 + 3, none⟩ = false := by
          have h := HOR.out
          rw [HLI.out] at h
          exact World.ownsRow.frozenAt h (i * 4 + 3)
        have k4 := (hb3.cell (p := ⟨g, i * 4 + 3, none⟩) hg2).trans k3
        rw [← HQ.out] at HO3 ⊢
        obtain ⟨zs, z1, z2, z3⟩ := HSET.out w3 A2 q c2 HOR.out HRM.out HQ.out (by rw [← HQ.out] at ho3; exact OwnE.mono ho3 hz)
        have Z1 := Lib.hid z1
        have Z2 := Lib.hid z2
        have Z3 := Lib.hid z3
        have HB4 : Hid (Below w.heap.size w (w3.setCell ⟨g, i * 4 + 3, none⟩ (.slice A2 q c2))) := Lib.hid (HB3.out.setCell (p := ⟨g, i * 4 + 3, none⟩) (by have := HB1.out.size; show w.heap.size ≤ g; omega) _)
        clear ho3 hb3 z1 z2 z3 k3 f3
        go_wp2_with fail
        go_roundw
        case rel => exact ⟨⟨i + 1, zs, by omega, by go_num, Z1.out, Z2.out, Z3.out⟩, HB4.out, by simpa [World.setCell] using hz3⟩
        case measure => simp [intOf]; omega
      · have HAL : Hid (Atts wr wr.heap.size Ao L) := Lib.hid ((OwnE.readAt hown hlen2).atts (hraw.rel hz) (Nat.le_refl _))
        have HB := Lib.hid hB
        have HPR : Hid (p = R.length) := Lib.hid (by rw [HX2.out]; exact HPL.out)
        have t1 : decide ((i : Int) < (p : Int)) = false := decide_eq_false (by omega)
        have HCO := Lib.hid (show p ≤ co by rw [hlen2]; exact OwnE.cap hown)
        clear hown hlen2 hraw hB
        go_wp2_with fail
        go_ret2
        exact ⟨⟨Ao, co, by (rw [HPR.out]; rfl), by rw [HX2.out]; exact HAL.out, by rw [← HPR.out]; exact HCO.out⟩, HB.out⟩
  · have HX2 : Hid (R = []) := Lib.hid (by rw [HX.out, if_neg hg])
    generalize givenE t a a = g at *
    have t3 : ((g : Int) != 0) = true := by simp; omega
    generalize hN : t.nodes.length = N at *
    generalize t.edges.length = M at *
    clear HX hg hN
    go_enter Try.func21, Try.ntmps21
    go_wp2_with fail
    with_reducible refine HG.out.mono ?_
    rintro e w1 ⟨rfl, hb1⟩
    have HB1 := Lib.hid (twoB_below hb1)
    clear hb1
    go_wp2_with fail
    go_ret2
    exact ⟨by rw [HX2.out]; exact ⟨none, 0, rfl, .inl rfl, Nat.le_refl _⟩, HB1.out⟩

end Go.Proofs.Ytgpcaofikmdpjaa
