/-
  Types: Strings and SameAttrs.
-/
import Derived.Test.YtgpcaofikmdpjaaTAts
namespace Go.Proofs.Ytgpcaofikmdpjaa
open Go.RowKit

set_option maxRecDepth 100000 in
set_option maxHeartbeats 1000000 in
theorem strings_any (xs ys : List ByteArray) (A A' : Option Addr) (B c c' : Nat) (w : World) (hl : xs.length ≤ 1000) (hA : Strs w B A xs) (hB : Strs w B A' ys) :
    Calls Try.prog 45 #[.slice A xs.length c, .slice A' ys.length c'] w fun e w' => e = .returned (.bool (decide (xs = ys))) ∧ ∃ n, w' = w.drewN n := by
  have HA := Lib.hid hA
  have HB := Lib.hid hB
  by_cases hn : xs.length = ys.length
  · have HLN := Lib.hid hn
    have hyl : ys.length ≤ xs.length := by omega
    have hxl : xs.length ≤ ys.length := by omega
    clear hA hB
    go_enter Try.func45, Try.ntmps45
    go_wp2_with fail
    go_loopw [5] (fun i wr => ∃ k q : Nat, k ≤ xs.length ∧ i = .int .i64 k ∧ wr = w.drewN q ∧ ∀ j (h1 : j < xs.length) (h2 : j < ys.length), j < k → xs[j] = ys[j]) (fun i _ => xs.length - (intOf i).toNat)
    case atStart => exact ⟨0, 0, Nat.zero_le _, rfl, rfl, fun j h1 h2 hj => by omega⟩
    case round =>
      obtain ⟨k, q, hk, rfl, rfl, hs⟩ := hrel
      have HS := Lib.hid hs
      clear hs
      by_cases hlt : k < xs.length
      · have hlt' : k < ys.length := by omega
        obtain ⟨b, off, rfl, hb, c0⟩ := Strs.cell HA.out hlt
        obtain ⟨b', off', rfl, hb', d0⟩ := Strs.cell HB.out hlt'
        have hk0 : (0 : Int) ≤ (k : Int) := by omega
        have hk1 : (k : Int) < (xs.length : Int) := by omega
        have hk1' : (k : Int) < (ys.length : Int) := by omega
        have hk2 : ((k : Int)).toNat = k := by omega
        have HNE : Hid (¬ xs[k] = ys[k] → decide (xs = ys) = false) := Lib.hid fun h => decide_eq_false (fun h2 => h (by simp only [h2]))
        have HEQ : Hid (xs[k] = ys[k] → ∀ j (h1 : j < xs.length) (h2 : j < ys.length), j < k + 1 → xs[j] = ys[j]) := Lib.hid fun h j h1 h2 h3 => by
          by_cases e : j = k
          · subst e; exact h
          · exact HS.out j h1 h2 (by omega)
        generalize xs[k] = x at c0 HNE HEQ
        generalize ys[k] = y at d0 HNE HEQ
        by_cases he : x = y
        · have HX := Lib.hid (HEQ.out he)
          subst he
          clear HEQ HNE
          go_wp2_with fail
          go_quiet (fail)
          go_wp2_with fail
          go_roundw
          case rel => exact ⟨k + 1, _, by omega, by go_num, rfl, HX.out⟩
          case measure => simp [intOf]; omega
        · have HX := Lib.hid (HNE.out he)
          have t2 := str_ne he
          clear HEQ HNE he
          go_wp2_with fail
          go_quiet (fail)
          go_wp2_with fail
          go_ret
          exact ⟨ret_bool (by rw [HX.out]), _, World.drewN_drewN _ _ _⟩
      · have H := Lib.hid (show decide (xs = ys) = true from decide_eq_true (List.ext_getElem HLN.out fun j h1 h2 => HS.out j h1 h2 (by omega)))
        clear HS
        go_wp2_with fail
        go_ret
        exact ⟨ret_bool (by rw [H.out]), _, rfl⟩
  · have H := Lib.hid (show decide (xs = ys) = false from decide_eq_false (fun h => hn (by rw [h])))
    have t1 : ((xs.length : Int) != (ys.length : Int)) = true := by simp; omega
    clear hA hB hn
    go_enter Try.func45, Try.ntmps45
    go_wp2_with fail
    go_ret
    exact ⟨ret_bool (by rw [H.out]), 0, rfl⟩

def BoolIff (P : Prop) (e : Ending) : Prop := ∃ b : Bool, e = .returned (.bool b) ∧ (b = true ↔ P)
theorem boolIff_true {P : Prop} (h : P) : BoolIff P (.returned (.bool true)) := ⟨true, rfl, by simp [h]⟩
theorem boolIff_false {P : Prop} (h : ¬ P) : BoolIff P (.returned (.bool false)) := ⟨false, rfl, by simp [h]⟩

set_option maxRecDepth 100000 in
set_option maxHeartbeats 4000000 in
theorem sameAttrs_any (xs ys : List Att) (A A' : Option Addr) (c c' : Nat) (w : World) (hl : xs.length ≤ 1000) (hsx : ∀ x ∈ xs, AttSm x) (hA : Atts w w.heap.size A xs) (hB : Atts w w.heap.size A' ys) :
    Calls Try.prog 24 #[.slice A xs.length c, .slice A' ys.length c'] w fun e w' => BoolIff (xs = ys) e ∧ Below w.heap.size w w' := by
  have HA := Lib.hid hA
  have HB := Lib.hid hB
  have HSX := Lib.hid hsx
  by_cases hn : xs.length = ys.length
  · have HLN := Lib.hid hn
    have hyl : ys.length ≤ xs.length := by omega
    have hxl : xs.length ≤ ys.length := by omega
    clear hA hB hsx
    go_enter Try.func24, Try.ntmps24
    go_wp2_with fail
    go_loopw [5] (fun i wr => ∃ k : Nat, k ≤ xs.length ∧ i = .int .i64 k ∧ Below w.heap.size w wr ∧ ∀ j (h1 : j < xs.length) (h2 : j < ys.length), j < k → xs[j] = ys[j]) (fun i _ => xs.length - (intOf i).toNat)
    case atStart => exact ⟨0, Nat.zero_le _, rfl, Below.refl _ _, fun j h1 h2 hj => by omega⟩
    case round =>
      obtain ⟨k, hk, rfl, hb, hs⟩ := hrel
      have HS := Lib.hid hs
      have HBW := Lib.hid hb
      by_cases hlt : k < xs.length
      · have hlt' : k < ys.length := by omega
        obtain ⟨b1, off1, A1, c1, rfl, _, x0, x1, x2, x3, hst1⟩ := Atts.cells (HA.out.below hb) hlt
        obtain ⟨b2, off2, A2, c2, rfl, _, y0, y1, y2, y3, hst2⟩ := Atts.cells (HB.out.below hb) hlt'
        obtain ⟨_, s2, _⟩ := HSX.out _ (List.getElem_mem hlt)
        have hk0 : (0 : Int) ≤ (k : Int) := by omega
        have hk1 : (k : Int) < (xs.length : Int) := by omega
        have hk1' : (k : Int) < (ys.length : Int) := by omega
        have hk2 : ((k : Int)).toNat = k := by omega
        have HNE : Hid (¬ xs[k] = ys[k] → ¬ xs = ys) := Lib.hid fun h h2 => h (by simp only [h2])
        have HEQ : Hid (xs[k] = ys[k] → ∀ j (h1 : j < xs.length) (h2 : j < ys.length), j < k + 1 → xs[j] = ys[j]) := Lib.hid fun h j h1 h2 h3 => by
          by_cases e : j = k
          · subst e; exact h
          · exact HS.out j h1 h2 (by omega)
        generalize xs[k] = x at x0 x1 x2 x3 hst1 s2 HNE HEQ
        generalize ys[k] = y at y0 y1 y2 y3 hst2 HNE HEQ
        obtain ⟨xn, xl, xh, xns⟩ := x
        obtain ⟨yn, yl, yh, yns⟩ := y
        dsimp only at x0 x1 x2 x3 hst1 y0 y1 y2 y3 hst2 s2
        have HSQ := Lib.hid (fun n => (Calls.quiet_of (strings_any xns yns A1 A2 w.heap.size c1 c2 (wr.drewN n) (by omega) hst1 hst2)))
        clear hb hs hst1 hst2 s2
        by_cases h1 : xn = yn
        · by_cases h2 : xl = yl
          · by_cases h3 : xh = yh
            · by_cases h4 : xns = yns
              · have HX := Lib.hid (HEQ.out (by rw [h1, h2, h3, h4]))
                rw [decide_eq_true h4] at HSQ
                subst h1 h2 h3
                clear HEQ HNE h4
                go_wp2_with fail
                go_quiet ((go_at_call 45; exact HSQ.out _))
                go_wp2_with fail
                go_roundw
                case rel => exact ⟨k + 1, by omega, by go_num, below_draws HBW.out _, HX.out⟩
                case measure => simp [intOf]; omega
              · have HX := Lib.hid (HNE.out (by simp [h4]))
                rw [decide_eq_false h4] at HSQ
                subst h1 h2 h3
                clear HEQ HNE h4
                go_wp2_with fail
                go_quiet ((go_at_call 45; exact HSQ.out _))
                go_wp2_with fail
                go_ret
                exact ⟨boolIff_false HX.out, below_draws HBW.out _⟩
            · have HX := Lib.hid (HNE.out (by simp [h3]))
              have t3 : (xh != yh) = true := by simp [h3]
              subst h1 h2
              clear HEQ HNE h3 HSQ
              go_wp2_with fail
              go_quiet (fail)
              go_wp2_with fail
              go_ret
              exact ⟨boolIff_false HX.out, below_draws HBW.out _⟩
          · have HX := Lib.hid (HNE.out (by simp [h2]))
            have t3 : (xl != yl) = true := by simp [h2]
            subst h1
            clear HEQ HNE h2 HSQ
            go_wp2_with fail
            go_quiet (fail)
            go_wp2_with fail
            go_ret
            exact ⟨boolIff_false HX.out, below_draws HBW.out _⟩
        · have HX := Lib.hid (HNE.out (by simp [h1]))
          have t3 := str_ne h1
          clear HEQ HNE h1 HSQ
          go_wp2_with fail
          go_quiet (fail)
          go_wp2_with fail
          go_ret
          exact ⟨boolIff_false HX.out, below_draws HBW.out _⟩
      · have HX : Hid (xs = ys) := Lib.hid (List.ext_getElem HLN.out fun j h1 h2 => HS.out j h1 h2 (by omega))
        clear HS hb hs
        go_wp2_with fail
        go_ret
        exact ⟨boolIff_true HX.out, HBW.out⟩
  · have t1 : ((xs.length : Int) != (ys.length : Int)) = true := by simp; omega
    have HX : Hid (¬ xs = ys) := Lib.hid (fun h => hn (by rw [h]))
    clear hA hB hn hsx
    go_enter Try.func24, Try.ntmps24
    go_wp2_with fail
    go_ret
    exact ⟨boolIff_false HX.out, Below.refl _ _⟩

end Go.Proofs.Ytgpcaofikmdpjaa
