/-
  Types: given, Is, Fits, Meet, Join of the reference.
-/
import Derived.Test.YtgpcaofikmdpjaaTVal
namespace Go.Proofs.Ytgpcaofikmdpjaa
open Go.RowKit

def givenE (t : Typ) (a b : Int) : Nat := if (validR t).1 ≠ 0 then (validR t).1 else if inB a 0 ((t.nodes.length : Int) - 1) && inB b 0 ((t.nodes.length : Int) - 1) then 0 else 6
structure GivT (t : Typ) (a b : Int) : Prop where
  val : ValidT t
  a0 : 0 ≤ a
  a1 : a < t.nodes.length
  b0 : 0 ≤ b
  b1 : b < t.nodes.length
theorem giv_of {t : Typ} {a b : Int} (h : givenE t a b = 0) : GivT t a b := by
  unfold givenE at h
  by_cases h1 : (validR t).1 = 0
  · rw [if_neg (fun e => e h1)] at h
    by_cases h2 : (inB a 0 ((t.nodes.length : Int) - 1) && inB b 0 ((t.nodes.length : Int) - 1)) = true
    · unfold inB at h2
      simp only [Bool.and_eq_true, decide_eq_true_eq] at h2
      exact ⟨valid_of h1, by omega, by omega, by omega, by omega⟩
    · rw [if_neg h2] at h; cases h
  · rw [if_pos h1] at h; exact absurd h h1
def isS (t : Typ) (a b : Int) : Bool := decide (givenE t a b = 0) && bel t a b
def fitsS (t : Typ) (e a b : Int) : Bool := decide (givenE t a b = 0) && (inB e 0 ((t.edges.length : Int) - 1) && (bel t a (t.edges.getD e.toNat default).fr && bel t b (t.edges.getD e.toNat default).to))
def meetS (t : Typ) (a b : Int) : Int × Nat := if givenE t a b ≠ 0 then (0, givenE t a b) else if bel t a b then (a, 0) else if bel t b a then (b, 0) else (0, 13)
def joinU (t : Typ) (b : Int) : Nat → Int → Int × Nat
  | 0, _ => (0, 10)
  | f + 1, i => if i < 0 then (0, 10) else if bel t b i then (i, 0) else joinU t b f (parT t i.toNat)
def joinS (t : Typ) (a b : Int) : Int × Nat := if givenE t a b ≠ 0 then (0, givenE t a b) else joinU t b (a + 1).toNat a

set_option maxRecDepth 100000 in
set_option maxHeartbeats 1000000 in
theorem given_any (hn : NameC 55) (t : Typ) (An : Option Addr) (cn : Nat) (Ae : Option Addr) (ce : Nat) (a b : Int) (hf : FewT t) (w : World) (hT : TyC w An Ae t) :
    Calls Try.prog 39 #[tyval An t.nodes.length cn Ae t.edges.length ce, .int .i64 a, .int .i64 b] w fun e w' => e = .returned (.int .i64 (givenE t a b)) ∧ Below w.heap.size w w' := by
  have HV := Lib.hid (fun u hu => valid_any hn t An cn Ae ce hf u hu)
  have HT := Lib.hid hT
  have HX : Hid (givenE t a b = if (validR t).1 ≠ 0 then (validR t).1 else if inB a 0 ((t.nodes.length : Int) - 1) && inB b 0 ((t.nodes.length : Int) - 1) then 0 else 6) := Lib.hid rfl
  have hn20 := hf.nodes
  clear hT hn hf
  generalize givenE t a b = R at HX ⊢
  generalize validR t = r at HV HX
  obtain ⟨e1, s1⟩ := r
  dsimp only at HV HX
  generalize t.nodes.length = N at *
  generalize t.edges.length = M at *
  by_cases he : e1 = 0
  · subst he
    have HI1 := Lib.hid (fun u => in_any a 0 ((N : Int) - 1) u)
    have HI2 := Lib.hid (fun u => in_any b 0 ((N : Int) - 1) u)
    have HX2 : Hid (R = if inB a 0 ((N : Int) - 1) && inB b 0 ((N : Int) - 1) then 0 else 6) := Lib.hid (by rw [HX.out, if_neg (fun e => e rfl)])
    generalize inB a 0 ((N : Int) - 1) = b1 at HI1 HX2
    generalize inB b 0 ((N : Int) - 1) = b2 at HI2 HX2
    clear HX
    cases b1
    case false =>
      go_enter Try.func39, Try.ntmps39
      go_wp2_with fail
      refine (HV.out _ (HT.out.up ((Below.refl _ _).alloc (Nat.le_refl _) _))).mono ?_
      rintro e w1 ⟨rfl, hb1⟩
      have hb1' := below_one' hb1
      obtain ⟨c0, c1⟩ := box_cell hb1'
      have HB1 := Lib.hid (box_below hb1')
      clear hb1 hb1'
      go_wp2_with fail
      refine (HI1.out _).mono ?_
      rintro e w2 ⟨rfl, rfl⟩
      go_wp2_with fail
      go_ret
      exact ⟨ret_int (by rw [HX2.out]; rfl), HB1.out⟩
    case true =>
      cases b2
      all_goals
        go_enter Try.func39, Try.ntmps39
        go_wp2_with fail
        refine (HV.out _ (HT.out.up ((Below.refl _ _).alloc (Nat.le_refl _) _))).mono ?_
        rintro e w1 ⟨rfl, hb1⟩
        have hb1' := below_one' hb1
        obtain ⟨c0, c1⟩ := box_cell hb1'
        have HB1 := Lib.hid (box_below hb1')
        clear hb1 hb1'
        go_wp2_with fail
        refine (HI1.out _).mono ?_
        rintro e w2 ⟨rfl, rfl⟩
        go_wp2_with fail
        refine (HI2.out _).mono ?_
        rintro e w2 ⟨rfl, rfl⟩
        go_wp2_with fail
        go_ret
        exact ⟨ret_int (by rw [HX2.out]; rfl), HB1.out⟩
  · have HX2 : Hid (R = e1) := Lib.hid (by rw [HX.out, if_pos he])
    have t3 : ((e1 : Int) != 0) = true := by simp; omega
    clear HX he
    go_enter Try.func39, Try.ntmps39
    go_wp2_with fail
    refine (HV.out _ (HT.out.up ((Below.refl _ _).alloc (Nat.le_refl _) _))).mono ?_
    rintro e w1 ⟨rfl, hb1⟩
    have HB1 := Lib.hid (box_below (below_one' hb1))
    clear hb1
    go_wp2_with fail
    go_ret
    exact ⟨ret_int (by rw [HX2.out]), HB1.out⟩

/-- Below1 where the types exist -/
theorem below1_call {t : Typ} (hg : GoodP t) (An : Option Addr) (cn : Nat) (Ae : Option Addr) (ce : Nat) {a : Int} (b : Int) (h0 : -1 ≤ a) (h1 : a < t.nodes.length) (w : World) (hT : TyC w An Ae t) :
    Calls Try.prog 40 #[tyval An t.nodes.length cn Ae t.edges.length ce, .int .i64 a, .int .i64 b] w fun e w' => e = .returned (.bool (bel t a b)) ∧ Below w.heap.size w w' :=
  below1_any t An cn Ae ce b hg _ a w (Nat.le_refl _) h0 h1 hT.1

set_option maxRecDepth 100000 in
set_option maxHeartbeats 1000000 in
theorem is_any (hn : NameC 55) (t : Typ) (An : Option Addr) (cn : Nat) (Ae : Option Addr) (ce : Nat) (a b : Int) (hf : FewT t) (w : World) (hT : TyC w An Ae t) :
    Calls Try.prog 16 #[tyval An t.nodes.length cn Ae t.edges.length ce, .int .i64 a, .int .i64 b] w fun e w' => e = .returned (.bool (isS t a b)) ∧ Below w.heap.size w w' := by
  have HG := Lib.hid (fun u hu => given_any hn t An cn Ae ce a b hf u hu)
  have HT := Lib.hid hT
  have HX : Hid (isS t a b = (decide (givenE t a b = 0) && bel t a b)) := Lib.hid rfl
  have HBE := Lib.hid (fun (h : givenE t a b = 0) u hu => below1_call (giv_of h).val.good An cn Ae ce b (by have := (giv_of h).a0; omega) (giv_of h).a1 u hu)
  clear hT hn hf
  generalize isS t a b = R at HX ⊢
  generalize givenE t a b = g at HX HG HBE
  generalize bel t a b = z at HX HBE
  by_cases hg : g = 0
  · subst hg
    have HX2 : Hid (R = z) := Lib.hid (by rw [HX.out]; rfl)
    have HBE2 := Lib.hid (HBE.out rfl)
    clear HX HBE
    go_enter Try.func16, Try.ntmps16
    go_wp2_with fail
    refine (HG.out _ (HT.out.up ((Below.refl _ _).alloc (Nat.le_refl _) _))).mono ?_
    rintro e w1 ⟨rfl, hb1⟩
    have hb1' := below_one' hb1
    obtain ⟨c0, c1⟩ := box_cell hb1'
    have HB1 := Lib.hid (box_below hb1')
    clear hb1 hb1'
    go_wp2_with fail
    refine (HBE2.out _ (HT.out.up HB1.out)).mono ?_
    rintro e w2 ⟨rfl, hb2⟩
    have HB2 := Lib.hid (HB1.out.trans (hb2.mono HB1.out.size))
    clear hb2
    go_wp2_with fail
    go_ret
    exact ⟨ret_bool HX2.out.symm, HB2.out⟩
  · have HX2 : Hid (R = false) := Lib.hid (by rw [HX.out, decide_eq_false hg]; rfl)
    have t3 : ((g : Int) == 0) = false := by simp; omega
    clear HX HBE hg
    go_enter Try.func16, Try.ntmps16
    go_wp2_with fail
    refine (HG.out _ (HT.out.up ((Below.refl _ _).alloc (Nat.le_refl _) _))).mono ?_
    rintro e w1 ⟨rfl, hb1⟩
    have HB1 := Lib.hid (box_below (below_one' hb1))
    clear hb1
    go_wp2_with fail
    go_ret
    exact ⟨ret_bool HX2.out.symm, HB1.out⟩

set_option maxRecDepth 100000 in
set_option maxHeartbeats 1000000 in
theorem meet_any (hn : NameC 55) (t : Typ) (An : Option Addr) (cn : Nat) (Ae : Option Addr) (ce : Nat) (a b : Int) (hf : FewT t) (w : World) (hT : TyC w An Ae t) :
    Calls Try.prog 28 #[tyval An t.nodes.length cn Ae t.edges.length ce, .int .i64 a, .int .i64 b] w fun e w' => e = .returned (.tuple #[.int .i64 (meetS t a b).1, .int .i64 (meetS t a b).2]) ∧ Below w.heap.size w w' := by
  have HG := Lib.hid (fun u hu => given_any hn t An cn Ae ce a b hf u hu)
  have HT := Lib.hid hT
  have HX : Hid (meetS t a b = if givenE t a b ≠ 0 then (0, givenE t a b) else if bel t a b then (a, 0) else if bel t b a then (b, 0) else (0, 13)) := Lib.hid rfl
  have HBE := Lib.hid (fun (h : givenE t a b = 0) u hu => below1_call (giv_of h).val.good An cn Ae ce b (by have := (giv_of h).a0; omega) (giv_of h).a1 u hu)
  have HBF := Lib.hid (fun (h : givenE t a b = 0) u hu => below1_call (giv_of h).val.good An cn Ae ce a (by have := (giv_of h).b0; omega) (giv_of h).b1 u hu)
  clear hT hn hf
  generalize meetS t a b = R at HX ⊢
  generalize givenE t a b = g at HX HG HBE HBF
  generalize bel t a b = z at HX HBE
  generalize bel t b a = y at HX HBF
  by_cases hg : g = 0
  · subst hg
    have HX2 : Hid (R = if z = true then (a, 0) else if y = true then (b, 0) else (0, 13)) := Lib.hid (by rw [HX.out, if_neg (fun e => e rfl)])
    have HBE2 := Lib.hid (HBE.out rfl)
    have HBF2 := Lib.hid (HBF.out rfl)
    clear HX HBE HBF
    cases z
    case true =>
      have HX3 : Hid (R = (a, 0)) := Lib.hid (by rw [HX2.out]; rfl)
      clear HX2
      go_enter Try.func28, Try.ntmps28
      go_wp2_with fail
      refine (HG.out _ (HT.out.up ((Below.refl _ _).alloc (Nat.le_refl _) _))).mono ?_
      rintro e w1 ⟨rfl, hb1⟩
      have hb1' := below_one' hb1
      obtain ⟨c0, c1⟩ := box_cell hb1'
      have HB1 := Lib.hid (box_below hb1')
      clear hb1 hb1'
      go_wp2_with fail
      refine (HBE2.out _ (HT.out.up HB1.out)).mono ?_
      rintro e w2 ⟨rfl, hb2⟩
      have HB2 := Lib.hid (HB1.out.trans (hb2.mono HB1.out.size))
      clear hb2
      go_wp2_with fail
      go_ret2
      exact ⟨by rw [HX3.out]; rfl, HB2.out⟩
    case false =>
      cases y
      all_goals
        go_enter Try.func28, Try.ntmps28
        go_wp2_with fail
        refine (HG.out _ (HT.out.up ((Below.refl _ _).alloc (Nat.le_refl _) _))).mono ?_
        rintro e w1 ⟨rfl, hb1⟩
        have hb1' := below_one' hb1
        obtain ⟨c0, c1⟩ := box_cell hb1'
        have HB1 := Lib.hid hb1'
        have hz1 : w.heap.size + 1 ≤ w1.heap.size := by have := hb1'.size; simpa using this
        clear hb1 hb1'
        go_wp2_with fail
        refine (HBE2.out _ (HT.out.up (box_below HB1.out))).mono ?_
        rintro e w2 ⟨rfl, hb2⟩
        have hb2' := HB1.out.trans (hb2.mono hz1)
        obtain ⟨d0, d1⟩ := box_cell hb2'
        have HB2 := Lib.hid (box_below hb2')
        clear hb2 hb2' c0 c1
        go_wp2_with fail
        refine (HBF2.out _ (HT.out.up HB2.out)).mono ?_
        rintro e w3 ⟨rfl, hb3⟩
        have HB3 := Lib.hid (HB2.out.trans (hb3.mono HB2.out.size))
        clear hb3
        go_wp2_with fail
        go_ret2
        exact ⟨by rw [HX2.out]; rfl, HB3.out⟩
  · have HX2 : Hid (R = (0, g)) := Lib.hid (by rw [HX.out, if_pos hg])
    have t3 : ((g : Int) != 0) = true := by simp; omega
    clear HX HBE HBF hg
    go_enter Try.func28, Try.ntmps28
    go_wp2_with fail
    refine (HG.out _ (HT.out.up ((Below.refl _ _).alloc (Nat.le_refl _) _))).mono ?_
    rintro e w1 ⟨rfl, hb1⟩
    have HB1 := Lib.hid (box_below (below_one' hb1))
    clear hb1
    go_wp2_with fail
    go_ret2
    exact ⟨by (rw [HX2.out]; rfl), HB1.out⟩

theorem joinU_step {t : Typ} {b : Int} {k m : Nat} (hm : k + 1 ≤ m) : joinU t b m k = if bel t b k then ((k : Int), 0) else joinU t b (m - 1) (parT t k) := by
  obtain ⟨f, rfl⟩ : ∃ f, m = f + 1 := ⟨m - 1, by omega⟩
  simp only [joinU]
  rw [if_neg (by omega), Int.toNat_natCast]
  rfl
theorem joinU_neg {t : Typ} {b i : Int} (m : Nat) (hi : i < 0) : joinU t b m i = (0, 10) := by
  cases m with
  | zero => rfl
  | succ m => simp only [joinU]; rw [if_pos hi]

set_option maxRecDepth 100000 in
set_option maxHeartbeats 2000000 in
theorem join_any (hn : NameC 55) (t : Typ) (An : Option Addr) (cn : Nat) (Ae : Option Addr) (ce : Nat) (a b : Int) (hf : FewT t) (w : World) (hT : TyC w An Ae t) :
    Calls Try.prog 30 #[tyval An t.nodes.length cn Ae t.edges.length ce, .int .i64 a, .int .i64 b] w fun e w' => e = .returned (.tuple #[.int .i64 (joinS t a b).1, .int .i64 (joinS t a b).2]) ∧ Below w.heap.size w w' := by
  have HG := Lib.hid (fun u hu => given_any hn t An cn Ae ce a b hf u hu)
  have HT := Lib.hid hT
  have HX : Hid (joinS t a b = if givenE t a b ≠ 0 then (0, givenE t a b) else joinU t b (a + 1).toNat a) := Lib.hid rfl
  clear hT hn hf
  generalize joinS t a b = R at HX ⊢
  by_cases hg : givenE t a b = 0
  · have hG := giv_of hg
    have hgp := hG.val.good
    rw [hg] at HG
    have HX2 : Hid (R = joinU t b (a + 1).toNat a) := Lib.hid (by rw [HX.out, if_neg (fun e => e hg)])
    obtain ⟨a0, a1, b0, b1⟩ : 0 ≤ a ∧ a < t.nodes.length ∧ 0 ≤ b ∧ b < t.nodes.length := ⟨hG.a0, hG.a1, hG.b0, hG.b1⟩
    have HBF := Lib.hid (fun (i : Int) u hu => below1_call hgp An cn Ae ce i (by omega) b1 u hu)
    have HST : Hid (∀ (k m : Nat), k < t.nodes.length → k + 1 ≤ m → joinU t b m k = if bel t b k then ((k : Int), 0) else joinU t b (m - 1) (parT t k)) := Lib.hid fun k m _ h2 => joinU_step h2
    have HPA : Hid (∀ (u : World) (k : Nat) (hk : k < t.nodes.length), TyC u An Ae t → ∃ b off, An = some ⟨b, off, none⟩ ∧ u.cell? ⟨b, off + k * 4 + 1, none⟩ = some (.int .i64 (parT t k)) ∧ -1 ≤ parT t k ∧ parT t k < k) := Lib.hid fun u k hk hu => by
      obtain ⟨b, off, _, _, h1, _, _, h2, _⟩ := Nods.cells hu.1 hk
      exact ⟨b, off, h1, by unfold parT; rw [getD_at hk]; exact h2, hgp k hk⟩
    have n12 := hG.val.few
    clear HX hG hgp hg
    generalize hN : t.nodes.length = N at *
    generalize t.edges.length = M at *
    clear hN
    go_enter Try.func30, Try.ntmps30
    go_wp2_with fail
    refine (HG.out _ (HT.out.up ((Below.refl _ _).alloc (Nat.le_refl _) _))).mono ?_
    rintro e w1 ⟨rfl, hb1⟩
    have HB1 := Lib.hid (below_one' hb1)
    clear hb1
    go_wp2_with fail
    go_loopw [9] (fun vi wr => ∃ (i : Int) (m : Nat), vi = .int .i64 i ∧ -1 ≤ i ∧ i < N ∧ (i + 1).toNat ≤ m ∧ R = joinU t b m i ∧ Below (w.heap.size + 1) (w.alloc (.cells #[.slice An N cn, .slice Ae M ce] 25 (0, 0))) wr) (fun vi _ => (intOf vi + 1).toNat)
    case atStart => exact ⟨a, (a + 1).toNat, rfl, by omega, a1, Nat.le_refl _, HX2.out, HB1.out⟩
    case round =>
      obtain ⟨i, m, rfl, hi0, hi1, hm, hR, hB⟩ := hrel
      by_cases hneg : i < 0
      · have t1 : decide (0 ≤ i) = false := decide_eq_false (by omega)
        have HR2 : Hid (R = (0, 10)) := Lib.hid (by rw [hR]; exact joinU_neg m hneg)
        have HB := Lib.hid (box_below hB)
        clear hR hB HX2
        go_wp2_with fail
        go_ret2
        exact ⟨by rw [HR2.out]; rfl, HB.out⟩
      · obtain ⟨k, rfl⟩ : ∃ k : Nat, i = k := ⟨i.toNat, by omega⟩
        have t1 : decide ((0 : Int) ≤ (k : Int)) = true := decide_eq_true (by omega)
        obtain ⟨c0, c1⟩ := box_cell hB
        have HB := Lib.hid hB
        have hsz : w.heap.size + 1 ≤ wr.heap.size := by have := hB.size; simpa using this
        have HR2 : Hid (R = if bel t b k then ((k : Int), 0) else joinU t b (m - 1) (parT t k)) := Lib.hid (by rw [hR]; exact HST.out k m (by omega) (by omega))
        have HBE := Lib.hid (HBF.out k wr (HT.out.up (box_below hB)))
        generalize bel t b k = z at HR2 HBE
        clear hR hB HX2
        cases z
        case true =>
          have HR3 : Hid (R = ((k : Int), 0)) := Lib.hid (by rw [HR2.out]; rfl)
          clear HR2
          go_wp2_with fail
          refine HBE.out.mono ?_
          rintro e w2 ⟨rfl, hb2⟩
          have HB2 := Lib.hid (box_below (HB.out.trans (hb2.mono hsz)))
          clear hb2
          go_wp2_with fail
          go_ret2
          exact ⟨by rw [HR3.out]; rfl, HB2.out⟩
        case false =>
          have HR3 : Hid (R = joinU t b (m - 1) (parT t k)) := Lib.hid (by rw [HR2.out]; rfl)
          clear HR2
          go_wp2_with fail
          refine HBE.out.mono ?_
          rintro e w2 ⟨rfl, hb2⟩
          have hb2' := HB.out.trans (hb2.mono hsz)
          obtain ⟨d0, d1⟩ := box_cell hb2'
          obtain ⟨bb, off, rfl, j0, p0, p1⟩ := HPA.out w2 k (by omega) (HT.out.up (box_below hb2'))
          have HB2 := Lib.hid hb2'
          generalize parT t k = pr at j0 p0 p1 HR3
          have i0 : (0 : Int) ≤ (k : Int) := by omega
          have i1 : (k : Int) < (N : Int) := by omega
          have i2 : ((k : Int)).toNat = k := by omega
          clear hb2 hb2' c0 c1
          go_wp2_with fail
          go_roundw
          case rel => exact ⟨pr, m - 1, rfl, p0, by omega, by omega, HR3.out, HB2.out⟩
          case measure => simp [intOf]; omega
  · have HX2 : Hid (R = (0, givenE t a b)) := Lib.hid (by rw [HX.out, if_pos hg])
    generalize givenE t a b = g at HX2 HG hg
    have t3 : ((g : Int) != 0) = true := by simp; omega
    clear HX hg
    go_enter Try.func30, Try.ntmps30
    go_wp2_with fail
    refine (HG.out _ (HT.out.up ((Below.refl _ _).alloc (Nat.le_refl _) _))).mono ?_
    rintro e w1 ⟨rfl, hb1⟩
    have HB1 := Lib.hid (box_below (below_one' hb1))
    clear hb1
    go_wp2_with fail
    go_ret2
    exact ⟨by (rw [HX2.out]; rfl), HB1.out⟩

end Go.Proofs.Ytgpcaofikmdpjaa
