/-
  Contracts of SameLists (reference), extend and All (program).
-/
import Derived.Test.YtdflgcfjfgojkaaMats
namespace Go.Proofs.Ytdflgcfjfgojkaa
open Go.RowKit

theorem ext_lists {xs ys : List (List Nat)} (hl : xs.length = ys.length) (h : ∀ i, i < xs.length → xs.getD i [] = ys.getD i []) : xs = ys := by
  apply List.ext_getElem hl
  intro i h1 h2
  have := h i h1
  simpa [List.getD, h1, h2] using this

set_option maxHeartbeats 1000000 in
theorem sameLists_any (xs ys : List (List Nat)) (v v' : Value) (base base' : Nat) (w : World) (hx : xs.length ≤ 1000000) (hxx : ∀ x ∈ xs, x.length ≤ 1000000) (hA : OwnL w base v xs) (hB : OwnL w base' v' ys) :
    Calls Try.prog 18 #[v, v'] w fun e w' => e = .returned (.bool (decide (xs = ys))) ∧ Below w.heap.size w w' := by
  obtain ⟨ao, cap, hv⟩ := hA.slice
  obtain ⟨ao', cap', hv'⟩ := hB.slice
  subst hv hv'
  by_cases hl : xs.length = ys.length
  · have t : ((xs.length : Int) != (ys.length : Int)) = false := by simp; omega
    have HA := Lib.hid hA
    have HB := Lib.hid hB
    have HLN := Lib.hid hl
    have HX := Lib.hid hxx
    have hyl : ys.length ≤ xs.length := by omega
    have hxl : xs.length ≤ ys.length := by omega
    clear hA hB hl hxx
    go_enter Try.func18, Try.ntmps18
    go_wp2
    go_loopw [5] (fun i wr => ∃ k q : Nat, k ≤ xs.length ∧ i = .int .i64 k ∧ wr = w.drewN q ∧ ∀ j, j < k → xs.getD j [] = ys.getD j []) (fun i _ => xs.length - (intOf i).toNat)
    case atStart => exact ⟨0, 0, Nat.zero_le _, rfl, rfl, fun j hj => by omega⟩
    case round =>
      obtain ⟨k, q, hk, rfl, rfl, hs⟩ := hrel
      have HS := Lib.hid hs
      clear hs
      by_cases hlt : k < xs.length
      · have hlt' : k < ys.length := by omega
        obtain ⟨b, cp, u, e1, hb, ck, hu⟩ := HA.out.at hlt
        obtain ⟨b', cp', u', e2, hb', dk, hu'⟩ := HB.out.at hlt'
        simp only [Value.slice.injEq, true_and] at e1 e2
        obtain ⟨rfl, rfl⟩ := e1
        obtain ⟨rfl, rfl⟩ := e2
        obtain ⟨A, c, rfl, hT⟩ := hu.ints
        obtain ⟨A', c', rfl, hT'⟩ := hu'.ints
        have hxm : (xs.getD k []).length ≤ 1000000 := HX.out _ (by rw [List.getD, List.getElem?_eq_getElem hlt]; exact List.getElem_mem hlt)
        have HC := Lib.hid (fun n => sameInts_any (xs.getD k []) (ys.getD k []) A A' c c' (w.drewN n) hxm hT hT')
        have hk0 : (0 : Int) ≤ (k : Int) := by omega
        have hk1 : (k : Int) < (xs.length : Int) := by omega
        have hk1' : (k : Int) < (ys.length : Int) := by omega
        have hk2 : ((k : Int)).toNat = k := by omega
        clear hu hu' hT hT'
        by_cases he : xs.getD k [] = ys.getD k []
        · have HE := Lib.hid he
          rw [show decide (xs.getD k [] = ys.getD k []) = true from decide_eq_true he] at HC
          clear he
          generalize xs.getD k [] = x at HC ck hxm
          generalize ys.getD k [] = y at HC dk
          go_wp2_with fail
          go_quiet ((go_at_call 34; refine (HC.out _).mono ?_; rintro e w2 ⟨rfl, m, rfl⟩; exact ⟨rfl, _, by rw [World.drewN_drewN, Nat.add_assoc]⟩))
          go_wp2_with fail
          go_roundw
          case rel => exact ⟨k + 1, _, by omega, by go_num, rfl, fun j hj => by
            by_cases e : j = k
            · subst e; exact HE.out
            · exact HS.out j (by omega)⟩
          case measure => simp [intOf]; omega
        · have H := Lib.hid (show decide (xs = ys) = false from decide_eq_false (fun h => he (by rw [h])))
          rw [show decide (xs.getD k [] = ys.getD k []) = false from decide_eq_false he] at HC
          clear he
          generalize xs.getD k [] = x at HC ck hxm
          generalize ys.getD k [] = y at HC dk
          go_wp2_with fail
          go_quiet ((go_at_call 34; refine (HC.out _).mono ?_; rintro e w2 ⟨rfl, m, rfl⟩; exact ⟨rfl, _, by rw [World.drewN_drewN, Nat.add_assoc]⟩))
          go_wp2_with fail
          go_ret
          exact ⟨ret_bool (by rw [H.out]), below_draws (below_draws (Below.refl _ _) q) _⟩
      · have H := Lib.hid (show decide (xs = ys) = true from decide_eq_true (ext_lists HLN.out (fun j hj => HS.out j (by omega))))
        go_wp2
        go_ret
        exact ⟨ret_bool (by rw [H.out]), below_draws (Below.refl _ _) q⟩
  · have t : ((xs.length : Int) != (ys.length : Int)) = true := by simp; omega
    have H := Lib.hid (show decide (xs = ys) = false from decide_eq_false (fun h => hl (by rw [h])))
    clear hl hA hB hxx
    go_enter Try.func18, Try.ntmps18
    go_wp2
    go_ret
    exact ⟨ret_bool (by rw [H.out]), Below.refl _ _⟩

end Go.Proofs.Ytdflgcfjfgojkaa
