/-
  Types: attrs of the reference.
-/
import Derived.Test.YtgpcaofikmdpjaaTAttL
import Derived.Deep.RegionHeld3
namespace Go.Proofs.Ytgpcaofikmdpjaa
open Go.RowKit

def AttEnd (base B : Nat) (xs : List Att) (e : Ending) (w' : World) : Prop := ∃ v ys, e = .returned v ∧ OwnR w' base v ys ∧ RawRel w' B ys xs

theorem attrs_none (v0 v1 : Value) (base B : Nat) (w : World) :
    Calls Try.prog 44 #[.agg #[v0, v1], .int .i64 (-1)] w fun e w' => AttEnd base B [] e w' ∧ Below w.heap.size w w' := by
  go_enter Try.func44, Try.ntmps44
  go_wp2_with fail
  go_ret
  exact ⟨⟨_, [], rfl, OwnE.nil _ _ _, RawRel.nil _ _⟩, (Below.refl _ _).alloc (Nat.le_refl _) _⟩

/-- what the region of attrs keeps -/
abbrev AttS (w : World) (b1 off k n cn : Nat) (Ae : Option Addr) (m ce : Nat) (pr : Int) (A' : Option Addr) (q c' : Nat) (u : World) : Prop :=
  u.cell? ⟨w.heap.size, 0, none⟩ = some (.slice (some ⟨b1, off, none⟩) n cn) ∧ u.cell? ⟨w.heap.size, 1, none⟩ = some (.slice Ae m ce) ∧ u.cell? ⟨b1, off + k * 4 + 1, none⟩ = some (.int .i64 pr) ∧ u.cell? ⟨b1, off + k * 4 + 3, none⟩ = some (.slice A' q c') ∧
    Below (w.heap.size + 1) (w.alloc (.cells #[.slice (some ⟨b1, off, none⟩) n cn, .slice Ae m ce] 25 (0, 0))) u

set_option maxRecDepth 100000 in
set_option maxHeartbeats 4000000 in
theorem attrs_any (t : Typ) (An : Option Addr) (cn : Nat) (Ae : Option Addr) (ce n : Nat) (hg : GoodU t n) (hnl : n ≤ t.nodes.length) (h20 : n ≤ 20) (hatt : ∀ x ∈ t.nodes, x.att.length ≤ 30) : ∀ (m : Nat) (a : Int) (B : Nat) (w : World), (a + 1).toNat ≤ m → -1 ≤ a → a < n → B ≤ w.heap.size → Nods w B An t.nodes →
    Calls Try.prog 44 #[tyval An t.nodes.length cn Ae t.edges.length ce, .int .i64 a] w fun e w' => AttEnd w.heap.size B (attL t a) e w' ∧ Below w.heap.size w w' := by
  intro m
  induction m with
  | zero =>
    intro a B w h1 h2 h3 hB hT
    have : a = -1 := by omega
    subst this
    exact attrs_none _ _ _ _ w
  | succ m ih =>
    intro a B w h1 h2 h3 hB hT
    by_cases hn : a = -1
    · subst hn
      exact attrs_none _ _ _ _ w
    · obtain ⟨k, rfl⟩ : ∃ k : Nat, a = k := ⟨a.toNat, by omega⟩
      have hk : k < n := by omega
      have hkl : k < t.nodes.length := by omega
      have hp := hg k hk
      have HX : Hid (attL t k = attL t (parT t k) ++ t.nodes[k].att) := Lib.hid (by rw [attL_step hg hk, getD_at hkl])
      have hal := hatt _ (List.getElem_mem hkl)
      have hpl := attL_len hatt (show parT t k ≤ 20 by omega)
      generalize attL t k = R at HX ⊢
      have HI := Lib.hid (fun u hu hu2 => ih (parT t k) B u (by omega) hp.1 (by omega) hu hu2)
      have hpar : parT t k = t.nodes[k].par := by unfold parT; rw [getD_at hkl]
      obtain ⟨b1, off, A', c', rfl, hbb, k0, k1, k2, k3, hat⟩ := Nods.cells hT hkl
      rw [← hpar] at k1
      obtain ⟨ro, hro, hrel⟩ := Atts.raw hat
      have HT := Lib.hid hT
      generalize t.nodes[k].att = al at HX hal k3 hrel
      generalize parT t k = pr at HX HI k1 hpl
      generalize attL t pr = L1 at HX HI hpl
      have hrl := hrel.1
      have HRO := Lib.hid hro
      have HRR := Lib.hid hrel
      obtain ⟨q, hq⟩ : ∃ q, q = al.length := ⟨_, rfl⟩
      rw [← hq] at k3 hal hrl
      have i0 : (0 : Int) ≤ (k : Int) := by omega
      have i1 : (k : Int) < (t.nodes.length : Int) := by omega
      have i2 : ((k : Int)).toNat = k := by omega
      have t2 : decide ((k : Int) < 0) = false := decide_eq_false (by omega)
      obtain ⟨N, hN⟩ : ∃ N, N = t.nodes.length := ⟨_, rfl⟩
      obtain ⟨M, hM⟩ : ∃ M, M = t.edges.length := ⟨_, rfl⟩
      rw [← hN] at HI i1 ⊢
      rw [← hM] at HI ⊢
      clear hM
      have HCELL : Hid (∀ u, Below (w.heap.size + 1) (w.alloc (.cells #[.slice (some ⟨b1, off, none⟩) N cn, .slice Ae M ce] 25 (0, 0))) u → AttS w b1 off k N cn Ae M ce pr A' q c' u) := Lib.hid fun u hu =>
        ⟨(hu.cell (p := ⟨w.heap.size, 0, none⟩) (by simp)).trans (by simp), (hu.cell (p := ⟨w.heap.size, 1, none⟩) (by simp)).trans (by simp), (hu.cell (p := ⟨b1, off + k * 4 + 1, none⟩) (by show b1 < _; omega)).trans ((World.cell?_alloc_lt w _ _ (show b1 < w.heap.size by omega)).trans k1), (hu.cell (p := ⟨b1, off + k * 4 + 3, none⟩) (by show b1 < _; omega)).trans ((World.cell?_alloc_lt w _ _ (show b1 < w.heap.size by omega)).trans k3), hu⟩
      have HW : Hid (∀ u, Below (w.heap.size + 1) (w.alloc (.cells #[.slice (some ⟨b1, off, none⟩) N cn, .slice Ae M ce] 25 (0, 0))) u → Below w.heap.size w u) := Lib.hid fun u hu => ((Below.refl w.heap.size w).alloc (Nat.le_refl _) _).trans (hu.mono (by omega))
      have HI2 : Hid (∀ u, AttS w b1 off k N cn Ae M ce pr A' q c' u → Calls Try.prog 44 #[tyval (some ⟨b1, off, none⟩) N cn Ae M ce, .int .i64 pr] u fun e w' => (∃ A1 c1 ys1, e = .returned (.slice A1 ys1.length c1) ∧ Reads ERaw w' w'.heap.size A1 ys1 ∧ RawRel w' B ys1 L1) ∧ AttS w b1 off k N cn Ae M ce pr A' q c' w' ∧ Below u.heap.size u w') := Lib.hid fun u hu => by
        have hu := hu.2.2.2.2
        have hsz : w.heap.size + 1 ≤ u.heap.size := by have := hu.size; simpa using this
        refine (HI.out u (by omega) (DReads.below HT.out ((HW.out u hu).mono hB))).mono ?_
        rintro e w' ⟨⟨v, ys, rfl, ho, hr⟩, h2⟩
        obtain ⟨A1, c1, rfl, hrd⟩ := OwnE.reads ho
        exact ⟨⟨A1, c1, ys, rfl, hrd, hr⟩, HCELL.out w' (hu.trans (h2.mono hsz)), h2⟩
      have HS0 : Hid (AttS w b1 off k N cn Ae M ce pr A' q c' (w.alloc (.cells #[.slice (some ⟨b1, off, none⟩) N cn, .slice Ae M ce] 25 (0, 0))).drew) := Lib.hid (HCELL.out _ (Below.drew (Below.refl _ _)))
      have HSB : Hid (∀ u u', AttS w b1 off k N cn Ae M ce pr A' q c' u → Below (w.heap.size + 1) u u' → AttS w b1 off k N cn Ae M ce pr A' q c' u') := Lib.hid fun u u' hu hb => HCELL.out u' (hu.2.2.2.2.trans hb)
      have HSZ : Hid (∀ u, AttS w b1 off k N cn Ae M ce pr A' q c' u → w.heap.size + 1 ≤ u.heap.size) := Lib.hid fun u hu => by have := hu.2.2.2.2.size; simpa using this
      have HSA : Hid (∀ u o, AttS w b1 off k N cn Ae M ce pr A' q c' u → AttS w b1 off k N cn Ae M ce pr A' q c' (u.alloc o)) := Lib.hid fun u o hu => HCELL.out _ (hu.2.2.2.2.alloc (HSZ.out u hu) o)
      have HRS : Hid (∀ u, AttS w b1 off k N cn Ae M ce pr A' q c' u → Reads ERaw u B A' ro) := Lib.hid fun u hu => HRO.out.below ((HW.out u hu.2.2.2.2).mono hB)
      have HRLS : Hid (∀ u, AttS w b1 off k N cn Ae M ce pr A' q c' u → RawRel u B ro al) := Lib.hid fun u hu => HRR.out.below ((HW.out u hu.2.2.2.2).mono hB)
      clear hq hN hT ih hp hpar k0 k1 k2 k3 hn h2 h3 HI HT hat hro hrel HRO HRR HCELL hg hatt
      go_enter Try.func44, Try.ntmps44
      go_wp2_with fail
      go_region_held3 (fun u => u.cell? ⟨w.heap.size, 0, none⟩ = some (.slice (some ⟨b1, off, none⟩) N cn) ∧ u.cell? ⟨w.heap.size, 1, none⟩ = some (.slice Ae M ce) ∧ u.cell? ⟨b1, off + k * 4 + 1, none⟩ = some (.int .i64 pr) ∧ u.cell? ⟨b1, off + k * 4 + 3, none⟩ = some (.slice A' q c') ∧ Below (w.heap.size + 1) (w.alloc (.cells #[.slice (some ⟨b1, off, none⟩) N cn, .slice Ae M ce] 25 (0, 0))) u)
        (first | assumption | exact HS0.out | exact HSA.out _ _ HS0.out | exact HSA.out _ _ (by assumption))
        ((first
          | (with_reducible refine (HI2.out _ (by first | assumption | exact HS0.out | exact HSA.out _ _ HS0.out)).mono ?_; rintro e wc ⟨⟨A1, c1, ys1, rfl, hrd1, hrr1⟩, hsc, hbc⟩)
          | (refine step_append_many (E := ERaw) (w := wc) (by rfl) _ _ 35 58 (by rfl) Try.underlying35 infoAtt rfl (by decide) (by decide) (w.heap.size + 1) (.slice (some ⟨w.heap.size + 1, 0, none⟩) 0 0) [] (by rfl) (OwnE.empty ((hbc.block _ (by simp)).trans (heap_two' _ _ _)) (Nat.le_refl _)) A1 ys1.length c1 wc.heap.size ys1 (by rfl) rfl hrd1 (by simp) (by have := hrr1.1; omega) (HSZ.out _ hsc) ?_; intro v2 w2 hown2 hg2 hb2 _; have hs2 := HSB.out _ _ hsc hb2; have hrr2 := hrr1.below (hb2.mono (by omega)))
          | (refine step_append_many (E := ERaw) (w := World.alloc wc _) (by rfl) _ _ 35 58 (by rfl) Try.underlying35 infoAtt rfl (by decide) (by decide) (w.heap.size + 1) (.slice (some ⟨wc.heap.size, 0, none⟩) 0 0) [] (by rfl) (OwnE.empty (heap_alloc_new _ _) (HSZ.out _ hsc)) A1 ys1.length c1 wc.heap.size ys1 (by rfl) rfl (hrd1.below ((Below.refl _ _).alloc (Nat.le_refl _) _)) (by simp) (by have := hrr1.1; omega) (by have := HSZ.out _ hsc; simp; omega) ?_; intro v2 w2 hown2 hg2 hb2 _; have hs2 := HSB.out _ _ (HSA.out _ _ hsc) hb2; have hrr2 := hrr1.below (((Below.refl _ _).alloc (Nat.le_refl _) _).mono (Nat.le_trans hB (Nat.le_trans (Nat.le_succ _) (HSZ.out _ hsc))) |>.trans (hb2.mono (by omega))))
          | (refine step_append_many (E := ERaw) (w := w2) (by rfl) _ _ 35 58 (by rfl) Try.underlying35 infoAtt rfl (by decide) (by decide) (w.heap.size + 1) v2 ([] ++ ys1) (by rfl) hown2 A' q c' B ro (by rfl) hrl.symm (HRS.out _ hs2) (by have := hrr1.1; simp; omega) (by omega) (HSZ.out _ hs2) ?_; intro v3 w3 hown3 hg3 hb3 _; have hs3 := HSB.out _ _ hs2 hb3; have hrr3 := hrr2.below (hb3.mono (by omega)))))
      all_goals
        have HO3 := Lib.hid (hown3.mono (Nat.le_succ _))
        have HR3 : Hid (RawRel w3 B (([] ++ ys1) ++ ro) R) := Lib.hid (by rw [HX.out]; exact hrr3.append (HRLS.out _ hs3))
        have HB3 := Lib.hid (HW.out _ hs3.2.2.2.2)
        clear hown3 hs3 hrr3 hs2 hown2 hrr2 hb2 hb3 hg3 hg2 hsc hrr1 hrd1 hbc
        go_wp2_with fail
        go_ret
        exact ⟨⟨v3, _, rfl, HO3.out, HR3.out⟩, HB3.out⟩

end Go.Proofs.Ytgpcaofikmdpjaa
