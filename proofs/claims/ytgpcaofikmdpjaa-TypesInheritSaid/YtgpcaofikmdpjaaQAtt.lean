/-
  Types, the program: checkNames, checkAttr.
-/
import Derived.Test.YtgpcaofikmdpjaaQName
namespace Go.Proofs.Ytgpcaofikmdpjaa
open Go.RowKit

theorem chk_name (l : List ByteArray) (k : Nat) (hk : k < l.length) : nameAt l k = chkR l[k] ((l.take k).any fun y => decide (y = l[k])) := by
  unfold nameAt chkR; rw [getD_at hk]
theorem chk_own (l : List Att) (k : Nat) (hk : k < l.length) : ownAt l k = if chkR l[k].nm ((l.take k).any fun y => decide (y.nm = l[k].nm)) ≠ 0 then chkR l[k].nm ((l.take k).any fun y => decide (y.nm = l[k].nm)) else attE l[k] := by
  unfold ownAt chkR; rw [getD_at hk]
  generalize isNm l[k].nm = a
  generalize (l.take k).any (fun x => decide (x.nm = l[k].nm)) = b
  cases a <;> cases b <;> simp

set_option maxRecDepth 100000 in
set_option maxHeartbeats 1000000 in
theorem checkNames_any (hn : NameC 60) (l : List ByteArray) (A : Option Addr) (c : Nat) (w : World) (hl : l.length ≤ 1000) (hlc : l.length ≤ c) (hs : ∀ s ∈ l, s.size ≤ 40) (hT : Strs w w.heap.size A l) :
    Calls Try.prog 65 #[.slice A l.length c] w fun e w' => e = .returned (.int .i64 (namesE l)) ∧ Below w.heap.size w w' := by
  by_cases h20 : 20 < l.length
  · have H := Lib.hid (show namesE l = 3 by unfold namesE; rw [if_pos h20])
    have t0 : decide (20 < (l.length : Int)) = true := decide_eq_true (by omega)
    clear hT hs
    go_enter Try.func65, Try.ntmps65
    go_wp2_with fail
    go_ret
    exact ⟨ret_int (by rw [H.out]; rfl), Below.refl _ _⟩
  · have H := Lib.hid (show namesE l = nzD (nameAt l) 0 (l.length - 0) by unfold namesE; rw [if_neg h20]; rfl)
    have HT := Lib.hid hT
    have t0 : decide (20 < (l.length : Int)) = false := decide_eq_false (by omega)
    have HC : Hid (∀ (k : Nat) (hk : k < l.length) (u : World), Below w.heap.size w u → Calls Try.prog 75 #[.slice A k c, .string l[k], .func (.func 76) #[] #[]] u fun e w' => e = .returned (.int .i64 (nameAt l k)) ∧ Below u.heap.size u w') := Lib.hid fun k hk u hu => by
      have := checkS_any hn (l.take k) A c l[k] u (by rw [List.length_take]; omega) (hs _ (List.getElem_mem hk)) ((Reads.up hT hu).take k)
      rw [← chk_name l k hk, List.length_take, Nat.min_eq_left (Nat.le_of_lt hk)] at this
      exact this
    have HST : Hid (∀ k, k < l.length → nzD (nameAt l) k (l.length - k) = if nameAt l k ≠ 0 then nameAt l k else nzD (nameAt l) (k + 1) (l.length - (k + 1))) := Lib.hid fun k hk => nzD_step hk
    have hl20 : l.length ≤ 20 := by omega
    generalize namesE l = R at H ⊢
    clear hT hs hn h20 hl
    go_enter Try.func65, Try.ntmps65
    go_wp2_with fail
    go_loopw [11] (fun ii wr => ∃ k : Nat, k ≤ l.length ∧ ii = .int .i64 k ∧ R = nzD (nameAt l) k (l.length - k) ∧ Below w.heap.size w wr) (fun ii _ => l.length - (intOf ii).toNat)
    case atStart => exact ⟨0, Nat.zero_le _, rfl, H.out, Below.refl _ _⟩
    case round =>
      obtain ⟨k, hk, rfl, hR, hB⟩ := hrel
      by_cases hlt : k < l.length
      · obtain ⟨b, off, rfl, hbb, k0⟩ := Strs.cell (Reads.below HT.out hB) hlt
        have HI := Lib.hid (HC.out k hlt wr hB)
        rw [HST.out k hlt] at hR
        have HRS := Lib.hid hR
        generalize l[k] = s at k0 HI
        generalize nameAt l k = ee at HI HRS
        have i0 : (0 : Int) ≤ (k : Int) := by omega
        have i1 : (k : Int) < (l.length : Int) := by omega
        have i2 : ((k : Int)).toNat = k := by omega
        have i3 : (k : Int) ≤ (c : Int) := by omega
        have hsz := hB.size
        have HB := Lib.hid hB
        clear hB hR
        by_cases he : ee = 0
        · have HR2 : Hid (R = nzD (nameAt l) (k + 1) (l.length - (k + 1))) := Lib.hid (by rw [HRS.out, if_neg (fun h => h he)])
          subst he
          clear HRS
          go_wp2_with fail
          refine HI.out.mono ?_
          rintro e w2 ⟨rfl, hb2⟩
          have HB2 := Lib.hid (HB.out.trans (hb2.mono hsz))
          clear hb2
          go_wp2_with fail
          go_roundw
          case rel => exact ⟨k + 1, by omega, by go_num, HR2.out, HB2.out⟩
          case measure => simp [intOf]; omega
        · have HR2 : Hid (R = ee) := Lib.hid (by rw [HRS.out, if_pos he])
          have t3 : ((ee : Int) != 0) = true := by simp; omega
          clear HRS he
          go_wp2_with fail
          refine HI.out.mono ?_
          rintro e w2 ⟨rfl, hb2⟩
          have HB2 := Lib.hid (HB.out.trans (hb2.mono hsz))
          clear hb2
          go_wp2_with fail
          go_ret
          exact ⟨ret_int (by rw [HR2.out]), HB2.out⟩
      · have HR2 : Hid (R = 0) := Lib.hid (by rw [hR]; exact nzD_end (by omega))
        have HB := Lib.hid hB
        clear hR hB
        go_wp2_with fail
        go_ret
        exact ⟨ret_int (by rw [HR2.out]; rfl), HB.out⟩

/-- the error of an attribute behind others -/
def ownE (l : List Att) (a : Att) : Nat := if chkR a.nm (l.any fun y => decide (y.nm = a.nm)) ≠ 0 then chkR a.nm (l.any fun y => decide (y.nm = a.nm)) else attE a
theorem own_at (l : List Att) (k : Nat) (hk : k < l.length) : ownAt l k = ownE (l.take k) l[k] := chk_own l k hk

set_option maxRecDepth 100000 in
set_option maxHeartbeats 2000000 in
theorem checkAttr_any (hn : NameC 60) (l : List Att) (A : Option Addr) (c : Nat) (a : Att) (A' : Option Addr) (c' : Nat) (w : World) (hl : l.length ≤ 1000) (hs : AttSm a) (hac : a.ns.length ≤ c') (hL : Atts w w.heap.size A l) (hN : Strs w w.heap.size A' a.ns) :
    Calls Try.prog 51 #[.slice A l.length c, aval a A' c'] w fun e w' => e = .returned (.int .i64 (ownE l a)) ∧ Below w.heap.size w w' := by
  obtain ⟨s1, s2, s3⟩ := hs
  have HCN := Lib.hid (fun u (hu : Below w.heap.size w u) => checkA_any hn l A c a.nm a.lo a.hi A' a.ns.length c' u hl s1 (DReads.up hL hu))
  have HCS := Lib.hid (fun u (hu : Below w.heap.size w u) => checkNames_any hn a.ns A' c' u (by omega) hac s3 (Reads.up hN hu))
  have HIV := Lib.hid (fun u => isInterval_any a A' c' u (by omega))
  have HB0 := Lib.hid (fun (o : Obj) => (Below.refl w.heap.size w).alloc (Nat.le_refl _) o)
  have HX : Hid (ownE l a = if chkR a.nm (l.any fun y => decide (y.nm = a.nm)) ≠ 0 then chkR a.nm (l.any fun y => decide (y.nm = a.nm)) else attE a) := Lib.hid rfl
  have HXA := Lib.hid (attE_inter a)
  clear hL hN hn s3
  generalize ownE l a = R at HX ⊢
  generalize chkR a.nm (l.any fun y => decide (y.nm = a.nm)) = e1 at HX HCN
  generalize namesE a.ns = e2 at HXA HCS
  generalize attE a = e3 at HX HXA
  generalize interS a = z at HXA HIV
  obtain ⟨nm, lo, hi, ns⟩ := a
  dsimp only at *
  have HBX : Hid (∀ u, Below (w.heap.size + 1) (w.alloc (.cells #[.string nm, .int .i64 lo, .int .i64 hi, .slice A' ns.length c'] 58 (0, 0))) u → u.cell? ⟨w.heap.size, 0, none⟩ = some (.string nm) ∧ u.cell? ⟨w.heap.size, 1, none⟩ = some (.int .i64 lo) ∧ u.cell? ⟨w.heap.size, 2, none⟩ = some (.int .i64 hi) ∧ u.cell? ⟨w.heap.size, 3, none⟩ = some (.slice A' ns.length c')) := Lib.hid fun u hu =>
    ⟨(hu.cell (p := ⟨w.heap.size, 0, none⟩) (by simp)).trans (by simp), (hu.cell (p := ⟨w.heap.size, 1, none⟩) (by simp)).trans (by simp), (hu.cell (p := ⟨w.heap.size, 2, none⟩) (by simp)).trans (by simp), (hu.cell (p := ⟨w.heap.size, 3, none⟩) (by simp)).trans (by simp)⟩
  go_enter Try.func51, Try.ntmps51
  go_wp2_with fail
  refine (HCN.out _ (HB0.out _)).mono ?_
  rintro e w1 ⟨rfl, hb1⟩
  have HB1 := Lib.hid (below_one' hb1)
  have hz1 : w.heap.size + 1 ≤ w1.heap.size := by have := HB1.out.size; simpa using this
  obtain ⟨c0, c1, c2, c3⟩ := HBX.out _ HB1.out
  clear hb1
  by_cases h1 : e1 = 0
  · have HR1 : Hid (R = e3) := Lib.hid (by rw [HX.out, if_neg (fun h => h h1)])
    subst h1
    clear HX
    go_wp2_with fail
    refine (HCS.out _ (box_below HB1.out)).mono ?_
    rintro e w2 ⟨rfl, hb2⟩
    have HB2 := Lib.hid (HB1.out.trans (hb2.mono hz1))
    have hz2 : w.heap.size + 1 ≤ w2.heap.size := by have := HB2.out.size; simpa using this
    clear hb2 c0 c1 c2 c3
    obtain ⟨c0, c1, c2, c3⟩ := HBX.out _ HB2.out
    by_cases h2 : e2 = 0
    · have HR2 : Hid (R = if z = true then 0 else 6) := Lib.hid (by rw [HR1.out, HXA.out, if_neg (fun h => h h2)])
      subst h2
      clear HR1 HXA
      go_wp2_with fail
      refine (HIV.out _).mono ?_
      rintro e w3 ⟨rfl, hb3⟩
      have HB3 := Lib.hid (box_below (HB2.out.trans (hb3.mono hz2)))
      clear hb3 c0 c1 c2 c3
      cases z
      all_goals
        go_wp2_with fail
        go_ret
        exact ⟨ret_int (by rw [HR2.out]; rfl), HB3.out⟩
    · have HR2 : Hid (R = e2) := Lib.hid (by rw [HR1.out, HXA.out, if_pos h2])
      have t3 : ((e2 : Int) != 0) = true := by simp; omega
      clear HR1 HXA h2
      go_wp2_with fail
      go_ret
      exact ⟨ret_int (by rw [HR2.out]), box_below HB2.out⟩
  · have HR2 : Hid (R = e1) := Lib.hid (by rw [HX.out, if_pos h1])
    have t3 : ((e1 : Int) != 0) = true := by simp; omega
    clear HX HXA h1
    go_wp2_with fail
    go_ret
    exact ⟨ret_int (by rw [HR2.out]), box_below HB1.out⟩

end Go.Proofs.Ytgpcaofikmdpjaa
