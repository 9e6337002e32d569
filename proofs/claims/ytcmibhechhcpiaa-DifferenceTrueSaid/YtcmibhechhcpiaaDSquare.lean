/-
  Difference: square of the reference.
-/
import Derived.Test.YtcmibhechhcpiaaDArcs
import Derived.Test.YtcmibhechhcpiaaMatr
namespace Go.Proofs.Ytcmibhechhcpiaa
open Go.RowKit

def sqM (off on : Int) (i k : Nat) : Int := if i = k then on else off

set_option maxHeartbeats 1000000 in
theorem square_any (n : Nat) (off on : Int) (w : World) (hn : n ≤ 12) :
    Calls Try.prog 53 #[.int .i64 n, .int .i64 off, .int .i64 on] w fun e w' => ∃ v, e = .returned v ∧ OwnM w' w.heap.size v (n + 1) (n + 1) (sqM off on) ∧ Below w.heap.size w w' := by
  go_enter Try.func53, Try.ntmps53
  go_wp2_with fail
  go_loopw [7, 8] (fun v i wr => ∃ k : Nat, k ≤ n + 1 ∧ i = .int .i64 k ∧ OwnM wr w.heap.size v k (n + 1) (sqM off on) ∧ Below w.heap.size w wr) (fun _ i _ => n + 1 - (intOf i).toNat)
  case atStart => exact ⟨0, Nat.zero_le _, rfl, OwnM.nil _ _ _ _, Below.refl _ _⟩
  case round =>
    obtain ⟨k, hk, rfl, hown, hb⟩ := hrel
    by_cases hlt : k ≤ n
    · obtain ⟨wo, hwo⟩ : ∃ wo, wo = wr := ⟨_, rfl⟩
      subst hwo
      have hsz := hb.size
      obtain ⟨A1, c1, rfl⟩ := OwnM.slice hown
      have HO := Lib.hid hown
      have HB := Lib.hid hb
      have t1 : decide ((k : Int) ≤ (n : Int)) = true := decide_eq_true (by omega)
      clear hown hb
      go_wp2_with fail
      go_loopw [9, 10] (fun u j ws => ∃ q : Nat, q ≤ n + 1 ∧ j = .int .i64 q ∧ OwnI ws wo.heap.size u (rowI q (sqM off on k)) ∧ Below wo.heap.size wo ws) (fun _ j _ => n + 1 - (intOf j).toNat)
      case atStart => exact ⟨0, Nat.zero_le _, rfl, OwnE.nil _ _ _, Below.refl _ _⟩
      case round =>
        obtain ⟨q, hq, rfl, hrow, hbs⟩ := hrel
        have hszs := hbs.size
        have HR := Lib.hid hrow
        have HBS := Lib.hid hbs
        have hlen := rowI_length q (sqM off on k)
        by_cases hlq : q ≤ n
        · have t2 : decide ((q : Int) ≤ (n : Int)) = true := decide_eq_true (by omega)
          have HE := Lib.hid (rowI_succ q (sqM off on k))
          obtain ⟨A2, c2, rfl⟩ := OwnE.slice hrow
          clear hrow hbs
          by_cases hkq : k = q
          · have t3 : ((k : Int) == (q : Int)) = true := by simp [hkq]
            have HX := Lib.hid (show sqM off on k q = on by unfold sqM; rw [if_pos hkq])
            clear hkq
            go_wp2_with (at_builtin; refine wpList_append_int (w := wr.alloc _) rfl _ _ rfl wo.heap.size _ (rowI q (sqM off on k)) rfl ?y1 wr.heap.size 1 on rfl ?y2 ?y3 ?y4 ?_)
            case y1 => exact HR.out.alloc _
            case y2 => simp
            case y3 => omega
            case y4 => simp; omega
            intro v1 w1 hown1 _ hb1
            have HO1 := Lib.hid hown1
            have HB1 := Lib.hid (HBS.out.trans (((Below.refl wo.heap.size wr).alloc hszs _).trans hb1))
            clear hown1 hb1
            go_wp2_with fail
            go_roundw
            case rel => exact ⟨q + 1, by omega, by go_num, by rw [HE.out, HX.out]; exact HO1.out, HB1.out⟩
            case measure => simp [intOf]; omega
          · have t3 : ((k : Int) == (q : Int)) = false := by simp; omega
            have HX := Lib.hid (show sqM off on k q = off by unfold sqM; rw [if_neg hkq])
            clear hkq
            go_wp2_with (at_builtin; refine wpList_append_int (w := wr.alloc _) rfl _ _ rfl wo.heap.size _ (rowI q (sqM off on k)) rfl ?y1 wr.heap.size 1 off rfl ?y2 ?y3 ?y4 ?_)
            case y1 => exact HR.out.alloc _
            case y2 => simp
            case y3 => omega
            case y4 => simp; omega
            intro v1 w1 hown1 _ hb1
            have HO1 := Lib.hid hown1
            have HB1 := Lib.hid (HBS.out.trans (((Below.refl wo.heap.size wr).alloc hszs _).trans hb1))
            clear hown1 hb1
            go_wp2_with fail
            go_roundw
            case rel => exact ⟨q + 1, by omega, by go_num, by rw [HE.out, HX.out]; exact HO1.out, HB1.out⟩
            case measure => simp [intOf]; omega
        · have t2 : decide ((q : Int) ≤ (n : Int)) = false := decide_eq_false (by omega)
          have e : q = n + 1 := by omega
          subst e
          obtain ⟨g, c2, hv, _, _⟩ := OwnE.pos hrow (by rw [rowI_length]; omega)
          rw [hlen] at hv
          subst hv
          clear hrow hbs
          go_wp2_with (at_builtin; refine wpList_append_rowM (w := wr.alloc _) (w0 := wo) rfl _ _ rfl w.heap.size _ k (n + 1) (sqM off on) rfl HO.out ?y1 wr.heap.size 1 rfl g c2 (sqM off on k) ?y2 ?y3 ?y4 hsz ?_)
          case y1 => exact HBS.out.alloc hszs _
          case y2 => simp
          case y3 => exact HR.out.alloc _
          case y4 => omega
          intro v1 w1 hown1 _ hb1
          have HO1 := Lib.hid hown1
          have HB1 := Lib.hid (HB.out.trans ((HBS.out.mono hsz).trans (((Below.refl w.heap.size wr).alloc (by omega) _).trans hb1)))
          clear hown1 hb1
          go_wp2_with fail
          go_roundw
          case rel => exact ⟨k + 1, by omega, by go_num, HO1.out.ext (fun i _ j _ => by
            by_cases e : i = k
            · rw [if_pos e, e]
            · rw [if_neg e]), HB1.out⟩
          case measure => simp [intOf]; omega
    · have e : k = n + 1 := by omega
      subst e
      have t1 : decide (((n + 1 : Nat) : Int) ≤ (n : Int)) = false := decide_eq_false (by omega)
      go_wp2_with fail
      go_ret
      exact ⟨_, rfl, hown, hb⟩

end Go.Proofs.Ytcmibhechhcpiaa
