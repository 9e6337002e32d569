/-
  The contract of All of the reference.
-/
import Derived.Test.YtdflgcfjfgojkaaExt
import Derived.Laws.AppendOwnNone
namespace Go.Proofs.Ytdflgcfjfgojkaa
open Go.RowKit

/-- the partitions that extend one, below c; behind the last place: all of them -/
def partO (p : List Nat) (c : Nat) : List (List Nat) := if c ≤ p.length then part1 p c else extOne p
theorem partO_zero (p : List Nat) : partO p 0 = [] := by simp [partO, part1]
theorem partO_yes {p : List Nat} {c : Nat} (hc : c < p.length) (h : at_ p c = c) : partO p (c + 1) = partO p c ++ [p ++ [c]] := by
  unfold partO
  rw [if_pos (by omega), if_pos (by omega), part1_yes h]
theorem partO_no {p : List Nat} {c : Nat} (hc : c < p.length) (h : at_ p c ≠ c) : partO p (c + 1) = partO p c := by
  unfold partO
  rw [if_pos (by omega), if_pos (by omega), part1_no h]
theorem partO_last (p : List Nat) : partO p (p.length + 1) = partO p p.length ++ [p ++ [p.length]] := by
  unfold partO
  rw [if_neg (by omega), if_pos (by omega)]
  rfl
theorem partO_len (p : List Nat) (c : Nat) : (partO p c).length ≤ p.length + 1 := by
  unfold partO
  split
  · have := part1_len p c; omega
  · exact extOne_len p
theorem extS_snocO (all : List (List Nat)) {k : Nat} (h : k < all.length) : extS (all.take (k + 1)) = extS (all.take k) ++ partO (all.getD k []) ((all.getD k []).length + 1) := by
  rw [extS_snoc all h, partO_last, List.append_assoc]
  congr 2
  unfold partO
  rw [if_pos (Nat.le_refl _)]

/-- append(append([]int{}, p...), ..): the copy -/
theorem wpList_append_copy {w : World} {ops : Array Oper} {rest : List Oper} {o : Oper} {a : Act} {Q : Exit → Act → World → Prop} (hgd : o.guard = none) (s x : Operand)
    (ho : o.op = .call { callee := .builtin .append, args := #[s, x], argTypes := #[22, 22] })
    (g : Nat) (hs : a.eval s = .slice (some ⟨g, 0, none⟩) 0 0) (hg : w.heap[g]? = some (.cells #[] 3 (0, 0))) (base bu : Nat) (u : Value) (p : List Nat) (hx : a.eval x = u) (hu : Own w bu u p)
    (hl : p.length ≤ 1000000) (hbase : base ≤ w.heap.size) (hbg : base ≤ g)
    (hK : ∀ v' w', Own w' base v' p → Below base w w' → w.grownBy w' (some g) → wpList Try.prog ops Q rest (a.put o.dst v') w') : wpList Try.prog ops Q (o :: rest) a w := by
  obtain ⟨i0, hi, hz0, hz1, hz2⟩ := info_parts infoInt
  have hown : w.ownsRow base 3 1 (.slice (some ⟨g, 0, none⟩) 0 0) 0 [] := ⟨rfl, .inr ⟨g, 0, #[], rfl, hbg, hg, Nat.le_refl _, by unfold maxLen; omega, rfl, rfl⟩⟩
  rcases hu.2 with ⟨e, hn⟩ | ⟨g', cap, cur, e, _⟩
  · refine wpList_append_own_none hgd s x 22 ho base 3 i0 1 Try.underlying22 hi _ 0 [] hs hown (by rw [hx, e]) (hK _ _ ?_ (Below.refl _ _) (grown_refl _ _))
    have : p = [] := List.eq_nil_of_length_eq_zero hn
    subst this
    exact hown
  · have hc : ∀ j u', (cellsN p)[j]? = some u' → w.cell? ((⟨g', 0, none⟩ : Addr).add j) = some u' := World.ownsRow.cells hu (by rw [e]; rfl)
    refine wpList_append_own w hgd s x 22 ho base 3 i0 (.int .i64 0) 1 8 Try.underlying22 hi hz0 hz1 hz2 rfl (by decide) _ 0 [] hs hown ⟨g', 0, none⟩ p.length cap (cellsN p) (by rw [hx, e]) (by rw [cellsN_length]; omega) hc ?_ (by unfold maxLen; omega) (by omega) hbase ?_
    · intro u' hu'
      simp only [cellsN, List.mem_map] at hu'
      obtain ⟨n, _, rfl⟩ := hu'
      rfl
    · intro v' w' h1 h2 _
      refine hK v' w' ?_ ((Below.refl base w).grown h2 hbase (by intro k hk; cases hk; exact hbg)) h2
      unfold Own
      simpa using h1

theorem refAll_err (n : Int) (w : World) (h : n < 0 ∨ 7 < n) :
    Calls Try.prog 27 #[.int .i64 n] w fun e w' => Err2 (sevenS n) e ∧ w = w' := by
  rcases h with h | h
  · have H := Lib.hid (seven_low h)
    have hd : decide (7 < n) = false := decide_eq_false (by omega)
    go_enter Try.func27, Try.ntmps27
    go_wp2_with fail
    go_ret2
    exact ⟨by rw [H.out]; rfl, rfl⟩
  · have H := Lib.hid (seven_high h)
    have hd : decide (7 < n) = true := decide_eq_true h
    go_enter Try.func27, Try.ntmps27
    go_wp2_with fail
    go_ret2
    exact ⟨by rw [H.out]; rfl, rfl⟩

set_option maxHeartbeats 4000000 in
theorem refAll_ok (n : Nat) (w : World) (h7 : n ≤ 7) :
    Calls Try.prog 27 #[.int .i64 n] w fun e w' => ResL w w' (allS n) e := by
  have HF := Lib.hid (own_one_nil w w.heap.size (Nat.le_refl _))
  go_enter Try.func27, Try.ntmps27
  go_wp2_with fail
  go_loopw [4, 5] (fun v x wr => ∃ k : Nat, k ≤ n ∧ x = .int .i64 k ∧ OwnL wr w.heap.size v (allS k) ∧ Below w.heap.size w wr) (fun _ x _ => n - (intOf x).toNat)
  case atStart => exact ⟨0, Nat.zero_le _, rfl, HF.out, (Below.refl _ _).alloc (Nat.le_refl _) _⟩
  case round =>
    obtain ⟨i, hi, rfl, hown, hbel⟩ := hrel
    have HW := Lib.hid hown
    have HG := Lib.hid hbel
    have hsz := hbel.size
    clear hown hbel
    by_cases hlt : i < n
    · obtain ⟨hal, hpl⟩ := allS_facts i (by omega)
      have HPL := Lib.hid hpl
      have HX := Lib.hid (show allS (i + 1) = extS (allS i) from rfl)
      clear hpl
      generalize allS i = all at HW HX hal HPL
      obtain ⟨ao, cap, hv⟩ := HW.out.slice
      subst hv
      obtain ⟨w1, rfl⟩ : ∃ w1 : World, w1 = wr := ⟨_, rfl⟩
      go_wp2_with fail
      go_loopw [6, 7] (fun v x wr => ∃ k : Nat, k ≤ all.length ∧ x = .int .i64 k ∧ OwnL wr w1.heap.size v (extS (all.take k)) ∧ Below w1.heap.size w1 wr) (fun _ x _ => all.length - (intOf x).toNat)
      case atStart => exact ⟨0, Nat.zero_le _, rfl, OwnL.nil _ _, Below.refl _ _⟩
      case round =>
        obtain ⟨k, hk, rfl, hown, hbel⟩ := hrel
        have HW1 := Lib.hid hown
        have HG1 := Lib.hid hbel
        have hsz1 := hbel.size
        clear hown hbel
        by_cases hlk : k < all.length
        · obtain ⟨b, cp, u, e1, hb, ck0, hu⟩ := HW.out.at hlk
          simp only [Value.slice.injEq, true_and] at e1
          obtain ⟨rfl, rfl⟩ := e1
          have hmem : all.getD k [] ∈ all := by rw [List.getD, List.getElem?_eq_getElem hlk]; exact List.getElem_mem hlk
          have hpi := HPL.out _ hmem
          have HS := Lib.hid (extS_snocO all hlk)
          have hlen0 : (extS (all.take k)).length ≤ 11 * 1000 := by
            have := extS_len (all.take k) (fun p hp => by rw [HPL.out p (List.mem_of_mem_take hp)]; omega)
            rw [List.length_take] at this
            omega
          obtain ⟨A, cu, rfl, _, _⟩ := hu.shape
          have HU := Lib.hid hu
          have HCK := Lib.hid ck0
          clear hu ck0 hmem
          generalize all.getD k [] = p at HCK hpi HS HU
          generalize extS (all.take k) = L0 at HS HW1 hlen0
          obtain ⟨w2, rfl⟩ : ∃ w2 : World, w2 = wr := ⟨_, rfl⟩
          have hpi1 : p.length ≤ i := by omega
          have hpi2 : i ≤ p.length := by omega
          have HPI := Lib.hid hpi
          clear hpi
          go_wp2_with fail
          go_loopw [6, 8] (fun v x wr => ∃ c : Nat, c ≤ i + 1 ∧ x = .int .i64 c ∧ OwnL wr w1.heap.size v (L0 ++ partO p c) ∧ Below w1.heap.size w1 wr) (fun _ x _ => i + 1 - (intOf x).toNat)
          case atStart => exact ⟨0, Nat.zero_le _, rfl, by simpa [partO_zero] using HW1.out, HG1.out⟩
          case round =>
            obtain ⟨c, hc, rfl, hown, hbel⟩ := hrel
            have hpl := partO_len p c
            have hlen1 : (L0 ++ partO p c).length ≤ 11 * 1000 + 10 := by rw [List.length_append]; omega
            have HW2 := Lib.hid hown
            have HG2 := Lib.hid hbel
            have hsz2 := hbel.size
            have HU2 := Lib.hid (HU.out.below hbel (Nat.le_refl _))
            have ck := (hbel.cell (p := ⟨b, k, none⟩) hb).trans HCK.out
            clear hown hbel
            have cka : ∀ o, (wr.alloc o).cell? ⟨b, k, none⟩ = some (.slice A p.length cu) := fun o => (World.cell?_alloc_lt wr o _ (show b < wr.heap.size by omega)).trans ck
            by_cases hci : c < i
            · have t1 : ((c : Int) == (i : Int)) = false := by simp; omega
              obtain ⟨A', c', e2, hT⟩ := HU2.out.ints
              simp only [Value.slice.injEq, true_and] at e2
              obtain ⟨rfl, rfl⟩ := e2
              obtain ⟨b2, off2, rfl, hb2, hc2⟩ := hT.atN (k := c) (by omega)
              have cc := hc2 c (by omega)
              clear hT hc2
              by_cases he : at_ p c = c
              · have HP1 := Lib.hid (partO_yes (by omega) he)
                rw [he] at cc
                clear he
                have t2 : ((c : Int) == (c : Int)) = true := by simp
                go_wp2_with (at_builtin; refine wpList_append_copy (w := wr.alloc _) rfl _ _ rfl wr.heap.size rfl ?x1 wr.heap.size w.heap.size (.slice (some ⟨b2, off2, none⟩) p.length cu) p rfl ?x2 ?x3 ?x4 ?x5 ?_)
                case x1 => exact heap_alloc_new wr _
                case x2 => exact World.ownsRow.alloc HU2.out _
                case x3 => omega
                case x4 => simp
                case x5 => exact Nat.le_refl _
                intro v3 w3 hown3 hb3 _
                obtain ⟨A3, c3, rfl⟩ := slice_of hown3
                have hsz3 : wr.heap.size + 1 ≤ w3.heap.size := by simpa using hb3.size
                have HV3 := Lib.hid hown3
                have HB3 := Lib.hid (((Below.refl wr.heap.size wr).alloc (Nat.le_refl _) _).trans hb3)
                clear hown3 hb3
                go_wp2_with (at_builtin; refine wpList_append_int (w := w3.alloc _) rfl _ _ rfl wr.heap.size (.slice A3 p.length c3) p rfl ?y1 ⟨w3.heap.size, 0, none⟩ 1 c rfl ?y2 ?y3 ?y4 ?_)
                case y1 => exact World.ownsRow.alloc HV3.out _
                case y2 => exact cell_new _ _ _
                case y3 => omega
                case y4 => simp; omega
                intro v4 w4 hown4 _ hb4
                obtain ⟨A4, c4, rfl⟩ := slice_of hown4
                have hsz4 : w3.heap.size + 1 ≤ w4.heap.size := by simpa using hb4.size
                have HV4 := Lib.hid (hown4.mono hsz2)
                have HB4 := Lib.hid (HB3.out.trans (((Below.refl wr.heap.size w3).alloc (by omega) _).trans hb4))
                have HL4 := Lib.hid (HW2.out.below HB4.out (Nat.le_refl _))
                clear hown4 hb4
                go_wp2_with (at_builtin; refine wpList_append_row (w := w4.alloc _) rfl _ _ rfl w1.heap.size _ (L0 ++ partO p c) rfl ?z1 ⟨w4.heap.size, 0, none⟩ 1 ?z2 (.slice A4 (p ++ [c]).length c4) (p ++ [c]) ?z3 ?z4 ?z5 ?z6 ?_)
                case z1 => exact OwnL.below HL4.out ((Below.refl _ w4).alloc (Nat.le_refl _) _) (Nat.le_refl _)
                case z2 => rfl
                case z3 => simp
                case z4 => exact World.ownsRow.alloc HV4.out _
                case z5 => omega
                case z6 => simp; omega
                intro v5 w5 hown5 hb5
                have HW5 := Lib.hid hown5
                have HB5 := Lib.hid ((HG2.out.trans ((HB4.out.mono hsz2).alloc (by omega) _)).trans hb5)
                clear hown5 hb5
                go_wp2_with fail
                go_roundw
                case rel => exact ⟨c + 1, by omega, by go_num, by rw [HP1.out]; simpa using HW5.out, HB5.out⟩
                case measure => simp [intOf]; omega
              · have HP1 := Lib.hid (partO_no (by omega) he)
                have t2 : ((c : Int) == (at_ p c : Int)) = false := by simp; omega
                have t3 : ((at_ p c : Int) == (c : Int)) = false := by simp; omega
                clear he
                go_wp2_with fail
                go_roundw
                case rel => exact ⟨c + 1, by omega, by go_num, by rw [HP1.out]; exact HW2.out, HG2.out⟩
                case measure => simp [intOf]; omega
            · by_cases hce : c ≤ i
              · have e : c = p.length := by omega
                subst e
                have HP1 := Lib.hid (partO_last p)
                have t1 : ((p.length : Int) == (i : Int)) = true := by simp; omega
                go_wp2_with (at_builtin; refine wpList_append_copy (w := wr.alloc _) rfl _ _ rfl wr.heap.size rfl ?x1 wr.heap.size w.heap.size (.slice A p.length cu) p rfl ?x2 ?x3 ?x4 ?x5 ?_)
                case x1 => exact heap_alloc_new wr _
                case x2 => exact World.ownsRow.alloc HU2.out _
                case x3 => omega
                case x4 => simp
                case x5 => exact Nat.le_refl _
                intro v3 w3 hown3 hb3 _
                obtain ⟨A3, c3, rfl⟩ := slice_of hown3
                have hsz3 : wr.heap.size + 1 ≤ w3.heap.size := by simpa using hb3.size
                have HV3 := Lib.hid hown3
                have HB3 := Lib.hid (((Below.refl wr.heap.size wr).alloc (Nat.le_refl _) _).trans hb3)
                clear hown3 hb3
                go_wp2_with (at_builtin; refine wpList_append_int (w := w3.alloc _) rfl _ _ rfl wr.heap.size (.slice A3 p.length c3) p rfl ?y1 ⟨w3.heap.size, 0, none⟩ 1 p.length rfl ?y2 ?y3 ?y4 ?_)
                case y1 => exact World.ownsRow.alloc HV3.out _
                case y2 => exact cell_new _ _ _
                case y3 => omega
                case y4 => simp; omega
                intro v4 w4 hown4 _ hb4
                obtain ⟨A4, c4, rfl⟩ := slice_of hown4
                have hsz4 : w3.heap.size + 1 ≤ w4.heap.size := by simpa using hb4.size
                have HV4 := Lib.hid (hown4.mono hsz2)
                have HB4 := Lib.hid (HB3.out.trans (((Below.refl wr.heap.size w3).alloc (by omega) _).trans hb4))
                have HL4 := Lib.hid (HW2.out.below HB4.out (Nat.le_refl _))
                clear hown4 hb4
                go_wp2_with (at_builtin; refine wpList_append_row (w := w4.alloc _) rfl _ _ rfl w1.heap.size _ (L0 ++ partO p p.length) rfl ?z1 ⟨w4.heap.size, 0, none⟩ 1 ?z2 (.slice A4 (p ++ [p.length]).length c4) (p ++ [p.length]) ?z3 ?z4 ?z5 ?z6 ?_)
                case z1 => exact OwnL.below HL4.out ((Below.refl _ w4).alloc (Nat.le_refl _) _) (Nat.le_refl _)
                case z2 => rfl
                case z3 => simp
                case z4 => exact World.ownsRow.alloc HV4.out _
                case z5 => omega
                case z6 => simp; omega
                intro v5 w5 hown5 hb5
                have HW5 := Lib.hid hown5
                have HB5 := Lib.hid ((HG2.out.trans ((HB4.out.mono hsz2).alloc (by omega) _)).trans hb5)
                clear hown5 hb5
                go_wp2_with fail
                go_roundw
                case rel => exact ⟨p.length + 1, by omega, by go_num, by rw [HP1.out]; simpa using HW5.out, HB5.out⟩
                case measure => simp [intOf]; omega
              · have HP1 := Lib.hid (show L0 ++ partO p c = extS (all.take (k + 1)) by rw [HS.out, show c = p.length + 1 by omega])
                go_wp2_with fail
                go_roundw
                case rel => exact ⟨k + 1, by omega, by go_num, OwnL.cast HP1.out HW2.out, HG2.out⟩
                case measure => simp [intOf]; omega
        · have HT := Lib.hid (show extS (all.take k) = allS (i + 1) by rw [HX.out, List.take_of_length_le (by omega)])
          go_wp2_with fail
          go_roundw
          case rel => exact ⟨i + 1, by omega, by go_num, OwnL.cast HT.out (HW1.out.mono hsz), HG.out.trans (HG1.out.mono hsz)⟩
          case measure => simp [intOf]; omega
    · have e : i = n := by omega
      subst e
      go_wp2
      go_ret2
      exact ⟨_, rfl, HW.out, HG.out⟩

end Go.Proofs.Ytdflgcfjfgojkaa
