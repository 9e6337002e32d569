/-
  Contracts of Classes, program and reference.
-/
import Derived.Test.YtdflgcfjfgojkaaCls
namespace Go.Proofs.Ytdflgcfjfgojkaa
open Go.RowKit

theorem cls_err (xs : List Int) (A : Option Addr) (c B : Nat) (w : World) (hx : xs.length ≤ maxLen) (hA : Ints w B A xs) (hE : checkS xs ≠ 0) :
    Calls Try.prog 11 #[.slice A xs.length c] w fun e w' => Err2 (checkS xs) e ∧ w = w' := by
  have HC := Lib.hid (quo_err xs A c B w hx hA hE)
  have t : ((checkS xs : Int) != 0) = true := by simp; omega
  clear hA hx hE
  generalize checkS xs = n at t HC ⊢
  go_enter Try.func11, Try.ntmps11
  go_wp2_with fail
  refine HC.out.mono ?_
  rintro e w' ⟨rfl, rfl⟩
  go_wp2_with fail
  go_ret2
  exact ⟨rfl, rfl⟩

theorem refCls_err (xs : List Int) (A : Option Addr) (c : Nat) (w : World) (hx : xs.length ≤ maxLen) (hA : Ints w w.heap.size A xs) (hE : checkS xs ≠ 0) :
    Calls Try.prog 13 #[.slice A xs.length c] w fun e w' => Err2 (checkS xs) e ∧ Below w.heap.size w w' := by
  have HC := Lib.hid (one_any xs A c w hx hA)
  have t : ((checkS xs : Int) != 0) = true := by simp; omega
  clear hA hx hE
  generalize checkS xs = n at t HC ⊢
  go_enter Try.func13, Try.ntmps13
  go_wp2_with fail
  refine HC.out.mono ?_
  rintro e w' ⟨rfl, hb⟩
  go_wp2_with fail
  go_ret2
  exact ⟨rfl, hb⟩

set_option maxHeartbeats 2000000 in
theorem cls_ok (us : List Nat) (A : Option Addr) (c : Nat) (w : World) (hv : V us) (h80 : us.length ≤ 80) (hA : Ints w w.heap.size A (toI us)) :
    Calls Try.prog 11 #[.slice A us.length c] w fun e w' => ResL w w' (classS us) e := by
  have HC := Lib.hid (quo_ok us A c w hv h80 hA)
  have HV := Lib.hid hv
  have hr := rank_le us us.length
  clear hA hv
  go_enter Try.func11, Try.ntmps11
  go_wp2_with fail
  refine HC.out.mono ?_
  rintro e w1 ⟨v, rfl, hown, hb1⟩
  have hql := quoS_length us
  obtain ⟨ai, ci, rfl, hI⟩ := hown.ints
  have HI := Lib.hid hI
  have HB1 := Lib.hid hb1
  have hsz1 := hb1.size
  have HQL := Lib.hid hql
  rw [hql]
  clear hown hb1 hI hql
  go_wp2_with (at_make; refine wpList_make_rows rfl _ _ rfl w1.heap.size (rank us us.length) rfl rfl (by omega) (Nat.le_refl _) ?_; intro w2 hownd hb2)
  have HD := Lib.hid hownd
  have HB2 := Lib.hid hb2
  clear hownd hb2
  go_wp2_with fail
  go_loopw [23] (fun x wr => ∃ k : Nat, k ≤ us.length ∧ x = .int .i64 k ∧ OwnD wr w1.heap.size (.slice (some ⟨w1.heap.size, 0, none⟩) (rank us us.length) (rank us us.length)) (clsTo us k) ∧ Below w1.heap.size w1 wr) (fun x _ => us.length - (intOf x).toNat)
  case atStart => exact ⟨0, Nat.zero_le _, rfl, by rw [clsTo_zero]; exact HD.out, HB2.out⟩
  case round =>
    obtain ⟨k, hk, rfl, hown, hbel⟩ := hrel
    by_cases hlt : k < us.length
    · obtain ⟨b, off, rfl, hb, hc⟩ := (HI.out.below hbel).atN (k := k) (by rw [HQL.out]; exact hlt)
      have ck := hc k (by rw [HQL.out]; exact hlt)
      rw [quoS_at hlt] at ck
      have hrl : rank us (at_ us k) < rank us us.length := rank_lt (HV.out.lt hlt) (HV.out.idem hlt)
      obtain ⟨g, cp, u, e1, hg, cu, hu⟩ := hown.ownL.at (k := rank us (at_ us k)) (by rw [clsTo_length]; exact hrl)
      simp only [Value.slice.injEq, Option.some.injEq, Addr.mk.injEq, and_true] at e1
      obtain ⟨rfl, e1, rfl⟩ := e1
      clear e1
      have HS := Lib.hid (clsTo_set HV.out hlt)
      have hlen : ((clsTo us k).getD (rank us (at_ us k)) []).length ≤ 80 := by
        have hm : ∀ ys ∈ clsTo us k, ys.length ≤ 80 := by
          intro ys h
          unfold clsTo at h
          obtain ⟨f, _, e⟩ := List.mem_map.1 h
          have := clsOf_len us k f
          rw [← e]
          omega
        exact hm _ (by rw [List.getD, List.getElem?_eq_getElem (by rw [clsTo_length]; exact hrl)]; exact List.getElem_mem _)
      have hcl := clsTo_length us k
      have HST := Lib.hid (fun o w1 u' ys hgr h1 h2 => OwnD.store (w1 := w1) (o := o) (u' := u') (ys := ys) hown hcl.symm cu hrl hgr h1 h2)
      have HG := Lib.hid hbel
      have HU := Lib.hid hu
      have hsz := hbel.size
      obtain ⟨A2, c2, hv2⟩ := slice_of hu
      subst hv2
      clear hown hbel hu hc hcl
      generalize (clsTo us k).getD (rank us (at_ us k)) [] = ys at HS HU HST cu hlen
      generalize rank us (at_ us k) = m at HS HST cu hrl ck
      have cua : ∀ o, (wr.alloc o).cell? ⟨w1.heap.size, m, none⟩ = some (.slice A2 ys.length c2) := fun o => (World.cell?_alloc_lt wr o _ hg).trans cu
      go_wp2_with (at_builtin; refine wpList_append_int_at (w := wr.alloc _) rfl _ _ rfl w1.heap.size (.slice A2 ys.length c2) ys rfl ?y1 ⟨wr.heap.size, 0, none⟩ 1 k rfl ?y2 ?y3 ?y4 ?_)
      case y1 => exact World.ownsRow.alloc HU.out _
      case y2 => exact cell_new _ _ _
      case y3 => omega
      case y4 => simp; omega
      intro v3 w3 hown3 hgr3 hbl3
      obtain ⟨A3, c3, hv3⟩ := slice_of hown3
      subst hv3
      have hbl3' : (Value.slice A3 (ys ++ [k]).length c3).ownBlock = (Value.slice A2 ys.length c2).ownBlock ∨ ∃ h, (Value.slice A3 (ys ++ [k]).length c3).ownBlock = some h ∧ wr.heap.size ≤ h := by
        rcases hbl3 with h | ⟨h, e, hl⟩
        · exact .inl h
        · exact .inr ⟨h, e, by first | omega | (simp at hl; omega)⟩
      obtain ⟨f1, f2, f3⟩ := HST.out _ _ _ _ hgr3 hown3 hbl3'
      have HF := Lib.hid f3
      have hbel3 : Below w1.heap.size w1 w3 := by
        exact (HG.out.alloc hsz _).trans ((Below.refl w1.heap.size _).grown hgr3 (by simp; omega) (fun h he => (HU.out.lt h he).1))
      have HB3 := Lib.hid hbel3
      clear hown3 hgr3 hbl3 hbl3' f3 hbel3
      go_wp2_with fail
      go_roundw
      case rel => exact ⟨k + 1, by omega, by go_num, by rw [HS.out]; simpa using HF.out, HB3.out.setCell (p := ⟨w1.heap.size, m, none⟩) (Nat.le_refl _) _⟩
      case measure => simp [intOf]; omega
    · have e : k = us.length := by omega
      subst e
      have HW := Lib.hid hown
      clear hown
      go_wp2
      go_ret2
      exact ⟨_, rfl, HW.out.ownL.mono hsz1, HB1.out.trans (hbel.mono hsz1)⟩

/-- the classes that begin below k -/
def clsBelow (p : List Nat) (k : Nat) : List (List Nat) := (fixsTo p k).map (clsOf p p.length)
theorem clsBelow_yes {p : List Nat} {k : Nat} (h : at_ p k = k) : clsBelow p (k + 1) = clsBelow p k ++ [clsOf p p.length k] := by simp [clsBelow, fixsTo_yes h]
theorem clsBelow_no {p : List Nat} {k : Nat} (h : at_ p k ≠ k) : clsBelow p (k + 1) = clsBelow p k := by simp [clsBelow, fixsTo_no h]
theorem clsBelow_len (p : List Nat) (k : Nat) : (clsBelow p k).length ≤ k := by
  have := rank_le p k
  simpa [clsBelow, rank] using this

set_option maxHeartbeats 2000000 in
theorem refCls_ok (us : List Nat) (A : Option Addr) (c : Nat) (w : World) (hv : V us) (h80 : us.length ≤ 80) (hA : Ints w w.heap.size A (toI us)) :
    Calls Try.prog 13 #[.slice A us.length c] w fun e w' => ResL w w' (classS us) e := by
  have HC : Hid (Calls Try.prog 32 #[.slice A us.length c] w fun e w' => e = .returned (.int .i64 0) ∧ Below w.heap.size w w') := by
    have := one_any (toI us) A c w (by rw [toI_length]; unfold maxLen; omega) hA
    rw [check_ok hv h80, toI_length] at this
    exact this
  have HA := Lib.hid hA
  clear hA hv
  go_enter Try.func13, Try.ntmps13
  go_wp2_with fail
  refine HC.out.mono ?_
  rintro e w0 ⟨rfl, hb0⟩
  have HB := Lib.hid hb0
  clear hb0
  go_wp2_with fail
  go_loopw [5, 6] (fun v x wr => ∃ k : Nat, k ≤ us.length ∧ x = .int .i64 k ∧ OwnL wr w.heap.size v (clsBelow us k) ∧ Below w.heap.size w wr) (fun _ x _ => us.length - (intOf x).toNat)
  case atStart => exact ⟨0, Nat.zero_le _, rfl, OwnL.nil _ _, HB.out⟩
  case round =>
    obtain ⟨k, hk, rfl, hown, hbel⟩ := hrel
    have hsz := hbel.size
    have HW := Lib.hid hown
    have HG := Lib.hid hbel
    by_cases hlt : k < us.length
    · obtain ⟨b, off, rfl, hb, hc⟩ := (HA.out.below hbel).atN hlt
      have ck := hc k hlt
      have HCC := Lib.hid (fun w1 (h1 : Below wr.heap.size wr w1) j (hj : j < us.length) => (h1.cell (p := ⟨b, off + j, none⟩) (show b < wr.heap.size by omega)).trans (hc j hj))
      have hlen := clsBelow_len us k
      clear hown hbel hc
      by_cases he : at_ us k = k
      · have HS := Lib.hid (clsBelow_yes he)
        rw [he] at ck
        clear he
        have t1 : ((k : Int) != (k : Int)) = false := by simp
        generalize clsBelow us k = L0 at HW HS hlen
        obtain ⟨wo, rfl⟩ : ∃ wo : World, wo = wr := ⟨_, rfl⟩
        go_wp2_with fail
        go_loopw [7, 8] (fun v x wr => ∃ i : Nat, i ≤ us.length ∧ x = .int .i64 i ∧ Own wr wo.heap.size v (clsOf us i k) ∧ Below wo.heap.size wo wr) (fun _ x _ => us.length - (intOf x).toNat)
        case atStart => exact ⟨0, Nat.zero_le _, rfl, World.ownsRow_nil _ _ _ _, Below.refl _ _⟩
        case round =>
          obtain ⟨i, hi, rfl, hown, hbel⟩ := hrel
          obtain ⟨A2, c2, hv2⟩ := slice_of hown
          subst hv2
          have hsz2 := hbel.size
          have HW2 := Lib.hid hown
          have HG2 := Lib.hid hbel
          have hl2 := clsOf_len us i k
          by_cases hil : i < us.length
          · have ci := HCC.out _ hbel i hil
            clear hown hbel
            by_cases he : at_ us i = k
            · have HS2 := Lib.hid (clsOf_yes he)
              rw [he] at ci
              clear he
              have t2 : ((k : Int) == (k : Int)) = true := by simp
              generalize clsOf us i k = ys at HW2 HS2 hl2
              go_wp2_with (at_builtin; refine wpList_append_int (w := wr.alloc _) rfl _ _ rfl wo.heap.size _ ys rfl ?y1 ⟨wr.heap.size, 0, none⟩ 1 i rfl ?y2 ?y3 ?y4 ?_)
              case y1 => exact World.ownsRow.alloc HW2.out _
              case y2 => exact cell_new _ _ _
              case y3 => omega
              case y4 => simp; omega
              intro v3 w3 hown3 _ hb3
              have HW3 := Lib.hid hown3
              have HB3 := Lib.hid ((HG2.out.alloc hsz2 _).trans hb3)
              clear hown3 hb3
              go_wp2_with fail
              go_roundw
              case rel => exact ⟨i + 1, by omega, by go_num, Own.cast HS2.out.symm HW3.out, HB3.out⟩
              case measure => simp [intOf]; omega
            · have HS2 := Lib.hid (clsOf_no he)
              have t2 : ((at_ us i : Int) == (k : Int)) = false := by simp; omega
              clear he
              go_wp2_with fail
              go_roundw
              case rel => exact ⟨i + 1, by omega, by go_num, Own.cast HS2.out.symm HW2.out, HG2.out⟩
              case measure => simp [intOf]; omega
          · have e : i = us.length := by omega
            subst e
            have HL2 := Lib.hid (HW.out.below hbel (Nat.le_refl _))
            clear hown hbel
            generalize clsOf us us.length k = ys at HW2 HS hl2
            go_wp2_with (at_builtin; refine wpList_append_row (w := wr.alloc _) rfl _ _ rfl w.heap.size _ L0 rfl ?z1 ⟨wr.heap.size, 0, none⟩ 1 ?z2 (.slice A2 ys.length c2) ys ?z3 ?z4 ?z5 ?z6 ?_)
            case z1 => exact OwnL.below HL2.out ((Below.refl _ wr).alloc (Nat.le_refl _) _) (Nat.le_refl _)
            case z2 => rfl
            case z3 => simp
            case z4 => exact World.ownsRow.alloc (HW2.out.mono hsz) _
            case z5 => omega
            case z6 => simp; omega
            intro v3 w3 hown3 hb3
            have HW3 := Lib.hid hown3
            have HB3 := Lib.hid (((HG.out.trans (HG2.out.mono hsz)).alloc (by omega) _).trans hb3)
            clear hown3 hb3
            go_wp2_with fail
            go_roundw
            case rel => exact ⟨k + 1, by omega, by go_num, OwnL.cast HS.out.symm HW3.out, HB3.out⟩
            case measure => simp [intOf]; omega
      · have HS := Lib.hid (clsBelow_no he)
        have t1 : ((at_ us k : Int) != (k : Int)) = true := by simp; omega
        clear he
        go_wp2_with fail
        go_roundw
        case rel => exact ⟨k + 1, by omega, by go_num, OwnL.cast HS.out.symm HW.out, HG.out⟩
        case measure => simp [intOf]; omega
    · have e : k = us.length := by omega
      subst e
      clear hown
      go_wp2
      go_ret2
      exact ⟨_, rfl, HW.out, hbel⟩

end Go.Proofs.Ytdflgcfjfgojkaa
