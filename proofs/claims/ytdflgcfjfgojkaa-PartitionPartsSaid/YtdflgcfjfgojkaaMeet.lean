/-
  Contracts of Finer and Meet of the program.
-/
import Derived.Test.YtdflgcfjfgojkaaJoin
namespace Go.Proofs.Ytdflgcfjfgojkaa
open Go.RowKit

instance (p q : List Nat) : Decidable (F p q) := inferInstanceAs (Decidable (∀ i, i < p.length → at_ q (at_ p i) = at_ q i))

set_option maxHeartbeats 1000000 in
theorem finer_ok (us vs : List Nat) (A A' : Option Addr) (c c' : Nat) (w : World) (ha : V us) (hb : V vs) (hl : us.length = vs.length) (h80 : us.length ≤ 80) (hA : Ints w w.heap.size A (toI us)) (hB : Ints w w.heap.size A' (toI vs)) :
    Calls Try.prog 24 #[.slice A us.length c, .slice A' vs.length c'] w fun e w' => e = .returned (.bool (decide (F us vs))) ∧ Below w.heap.size w w' := by
  have HC := Lib.hid (checkBoth_ok us vs A A' c c' _ _ w ha hb hl h80 hA hB)
  have HA := Lib.hid hA
  have HB := Lib.hid hB
  have HVA := Lib.hid ha
  have hle : us.length ≤ vs.length := by omega
  have hle' : vs.length ≤ us.length := by omega
  clear hA hB ha hb hl
  go_enter Try.func24, Try.ntmps24
  go_wp2_with fail
  refine HC.out.mono ?_
  rintro e w' ⟨rfl, rfl⟩
  go_wp2_with fail
  go_loopw [13] (fun x wr => ∃ k q : Nat, k ≤ us.length ∧ x = .int .i64 k ∧ wr = w.drewN q ∧ ∀ j, j < k → at_ vs (at_ us j) = at_ vs j) (fun x _ => us.length - (intOf x).toNat)
  case atStart => exact ⟨0, 0, Nat.zero_le _, rfl, rfl, fun j hj => by omega⟩
  case round =>
    obtain ⟨k, q, hk, rfl, rfl, hs⟩ := hrel
    have HS := Lib.hid hs
    clear hs
    by_cases hlt : k < us.length
    · obtain ⟨b, off, rfl, hb, hc⟩ := HA.out.atN hlt
      obtain ⟨b', off', rfl, hb', hd⟩ := HB.out.atN (k := k) (by omega)
      have ck := hc k hlt
      have hv := HVA.out.lt hlt
      have dk := hd k (by omega)
      have dv := hd (at_ us k) (by omega)
      have HE := Lib.hid (show at_ vs (at_ us k) = at_ vs (at_ us k) from rfl)
      have hk0 : (0 : Int) ≤ (k : Int) := by omega
      have hk1 : (k : Int) < (vs.length : Int) := by omega
      have hk2 : ((k : Int)).toNat = k := by omega
      by_cases he : at_ vs (at_ us k) = at_ vs k
      · have HE := Lib.hid he
        rw [he] at dv
        clear he hc hd
        generalize at_ us k = y at ck dv hv
        generalize at_ vs k = z at dk dv
        have hy0 : (0 : Int) ≤ (y : Int) := by omega
        have hy1 : (y : Int) < (vs.length : Int) := by omega
        have hy2 : ((y : Int)).toNat = y := by omega
        have t2 : ((z : Int) != (z : Int)) = false := by simp
        go_wp2_with fail
        go_quiet (fail)
        go_wp2_with fail
        go_roundw
        case rel => exact ⟨k + 1, _, by omega, by go_num, rfl, fun j hj => by
          by_cases e : j = k
          · subst e; exact HE.out
          · exact HS.out j (by omega)⟩
        case measure => simp [intOf]; omega
      · have H := Lib.hid (show decide (F us vs) = false from decide_eq_false (fun h => he (h k hlt)))
        clear hc hd HE
        generalize at_ vs (at_ us k) = x at dv he
        generalize at_ us k = y at ck dv hv
        generalize at_ vs k = z at dk he
        have hy0 : (0 : Int) ≤ (y : Int) := by omega
        have hy1 : (y : Int) < (vs.length : Int) := by omega
        have hy2 : ((y : Int)).toNat = y := by omega
        have t2 : ((z : Int) != (x : Int)) = true := by simp; omega
        clear he
        go_wp2_with fail
        go_quiet (fail)
        go_wp2_with fail
        go_ret
        exact ⟨ret_bool (by rw [H.out]), below_draws (below_draws (Below.refl _ _) q) _⟩
    · have H := Lib.hid (show decide (F us vs) = true from decide_eq_true (fun j hj => HS.out j (by omega)))
      go_wp2
      go_ret
      exact ⟨ret_bool (by rw [H.out]), below_draws (Below.refl _ _) q⟩

/-- the meet's first i places, the rest numbered -/
def mtTo (us vs : List Nat) (i n : Nat) : List Nat := (List.range n).map fun j => if j < i then leastS us vs j else j
theorem mtTo_length (us vs : List Nat) (i n : Nat) : (mtTo us vs i n).length = n := by simp [mtTo]
theorem mtTo_zero (us vs : List Nat) (n : Nat) : mtTo us vs 0 n = List.range n := by simp [mtTo]
theorem mtTo_all (us vs : List Nat) : mtTo us vs us.length us.length = meetS us vs := by
  unfold mtTo meetS
  apply List.map_congr_left
  intro j hj
  rw [List.mem_range] at hj
  rw [if_pos hj]
theorem mtTo_at {us vs : List Nat} {i n j : Nat} (hj : j < n) : at_ (mtTo us vs i n) j = if j < i then leastS us vs j else j := by
  unfold mtTo
  rw [at_map (by simpa using hj), at_range hj]
theorem mtTo_set {us vs : List Nat} {i n : Nat} : (mtTo us vs i n).set i (leastS us vs i) = mtTo us vs (i + 1) n := by
  apply ext_at (by simp [mtTo])
  intro j hj
  simp only [List.length_set, mtTo_length] at hj
  rw [mtTo_at hj]
  have e : at_ ((mtTo us vs i n).set i (leastS us vs i)) j = if i = j then leastS us vs i else at_ (mtTo us vs i n) j := by
    unfold at_
    simp only [List.getD_eq_getElem?_getD, List.getElem?_set, mtTo_length]
    split
    · subst j; rw [if_pos hj]; rfl
    · rfl
  rw [e, mtTo_at hj]
  by_cases h : i = j
  · subst h; rw [if_pos rfl, if_pos (by omega)]
  · rw [if_neg h]
    by_cases h2 : j < i
    · rw [if_pos h2, if_pos (by omega)]
    · rw [if_neg h2, if_neg (by omega)]
theorem mtTo_keep {us vs : List Nat} {i n : Nat} (h : leastS us vs i = i) : mtTo us vs (i + 1) n = mtTo us vs i n := by
  unfold mtTo
  apply List.map_congr_left
  intro j _
  by_cases h2 : j < i
  · rw [if_pos h2, if_pos (by omega)]
  · rw [if_neg h2]
    split
    · have e : j = i := by omega
      rw [e, h]
    · rfl

set_option maxHeartbeats 2000000 in
theorem meet_ok (us vs : List Nat) (A A' : Option Addr) (c c' : Nat) (w : World) (ha : V us) (hb : V vs) (hl : us.length = vs.length) (h80 : us.length ≤ 80) (hA : Ints w w.heap.size A (toI us)) (hB : Ints w w.heap.size A' (toI vs)) :
    Calls Try.prog 22 #[.slice A us.length c, .slice A' vs.length c'] w fun e w' => Res2 w w' (meetS us vs) e := by
  have HC := Lib.hid (checkBoth_ok us vs A A' c c' _ _ w ha hb hl h80 hA hB)
  have HA := Lib.hid hA
  have HB := Lib.hid hB
  have hle : us.length ≤ vs.length := by omega
  have hle' : vs.length ≤ us.length := by omega
  clear hA hB ha hb hl
  go_enter Try.func22, Try.ntmps22
  go_wp2_with fail
  refine HC.out.mono ?_
  rintro e w' ⟨rfl, rfl⟩
  go_wp2_with fail
  refine (finest_any us.length w (by omega)).mono ?_
  rintro e w1 ⟨g, rfl, hown, hb1⟩
  have hg : w.heap.size ≤ g := (hown.lt g rfl).1
  have HO := Lib.hid hown
  have HB1 := Lib.hid hb1
  clear hown hb1
  go_wp2_with fail
  go_loopw [21] (fun x wr => ∃ i : Nat, i ≤ us.length ∧ x = .int .i64 i ∧ Own wr w.heap.size (.slice (some ⟨g, 0, none⟩) us.length us.length) (mtTo us vs i us.length) ∧ Below w.heap.size w wr) (fun x _ => us.length - (intOf x).toNat)
  case atStart => exact ⟨0, Nat.zero_le _, rfl, by rw [mtTo_zero]; exact HO.out, HB1.out⟩
  case round =>
    obtain ⟨i, hi, rfl, hown, hbel⟩ := hrel
    by_cases hlt : i < us.length
    · obtain ⟨b, off, rfl, hb, hc⟩ := (HA.out.below hbel).atN hlt
      obtain ⟨b', off', rfl, hb', hd⟩ := (HB.out.below hbel).atN (k := i) (by omega)
      have hln := mtTo_length us vs i us.length
      have fi := World.ownsRow.frozenAt (g := g) (cap := us.length) (n := us.length) (by have := hown; unfold Own at this; rw [hln] at this; exact this) i
      have gi : wr.cell? ⟨g, i, none⟩ = some (.int .i64 (at_ (mtTo us vs i us.length) i : Nat)) := Own.cell (c := us.length) (by rw [hln]; exact hown) (by rw [hln]; exact hlt)
      have HLN := Lib.hid hln
      have HW := Lib.hid hown
      have HG := Lib.hid hbel
      have HCC := Lib.hid hc
      have HDD := Lib.hid hd
      have hsz := hbel.size
      have ci := hc i hlt
      have di := hd i (by omega)
      clear hown hbel hc hd hln
      obtain ⟨wo, rfl⟩ : ∃ wo : World, wo = wr := ⟨_, rfl⟩
      have hi0 : (0 : Int) ≤ (i : Int) := by omega
      have hi1 : (i : Int) < (us.length : Int) := by omega
      have hi1' : (i : Int) < (vs.length : Int) := by omega
      have hi2 : ((i : Int)).toNat = i := by omega
      go_wp2_with fail
      go_loopw [25] (fun x wr => ∃ k q : Nat, k ≤ i ∧ x = .int .i64 k ∧ wr = wo.drewN q ∧ ∀ j, j < k → ¬ (at_ us j = at_ us i ∧ at_ vs j = at_ vs i)) (fun x _ => i - (intOf x).toNat)
      case atStart => exact ⟨0, 0, Nat.zero_le _, rfl, rfl, fun j hj => by omega⟩
      case round =>
        obtain ⟨k, q, hk, rfl, rfl, hs⟩ := hrel
        have HS := Lib.hid hs
        clear hs
        by_cases hki : k < i
        · have ck := HCC.out k (by omega)
          have dk := HDD.out k (by omega)
          have hk0 : (0 : Int) ≤ (k : Int) := by omega
          have hk1 : (k : Int) < (us.length : Int) := by omega
          have hk1' : (k : Int) < (vs.length : Int) := by omega
          have hk2 : ((k : Int)).toNat = k := by omega
          by_cases h1 : at_ us k = at_ us i
          · by_cases h2 : at_ vs k = at_ vs i
            · have HL := Lib.hid (leastS_eq h1 h2 HS.out)
              rw [h1] at ck
              rw [h2] at dk
              have t1 : ((at_ us i : Int) == (at_ us i : Int)) = true := by simp
              have t2 : ((at_ vs i : Int) == (at_ vs i : Int)) = true := by simp
              clear h1 h2
              go_wp2_with fail
              go_quiet (fail)
              go_wp2_with fail
              go_roundw
              case rel => exact ⟨i + 1, by omega, by go_num, by
                have := (Own.set (w := wo) (g := g) (c := us.length) (m := k) HLN.out.symm HW.out i).1
                rw [← HL.out, mtTo_set] at this
                rw [← HL.out]
                exact this, (below_draws HG.out _).setCell (p := ⟨g, i, none⟩) hg _⟩
              case measure => simp [intOf]; omega
            · have H3 := Lib.hid h2
              have t1 : ((at_ us i : Int) == (at_ us i : Int)) = true := by simp
              have t2 : ((at_ vs k : Int) == (at_ vs i : Int)) = false := by simp; omega
              rw [h1] at ck
              clear h1 h2
              go_wp2_with fail
              go_quiet (fail)
              go_wp2_with fail
              go_roundw
              case rel => exact ⟨k + 1, _, by omega, by go_num, rfl, fun j hj => by
                by_cases e : j = k
                · subst e; exact fun h => H3.out h.2
                · exact HS.out j (by omega)⟩
              case measure => simp [intOf]; omega
          · have H3 := Lib.hid h1
            have t1 : ((at_ us k : Int) == (at_ us i : Int)) = false := by simp; omega
            clear h1
            go_wp2_with fail
            go_quiet (fail)
            go_wp2_with fail
            go_roundw
            case rel => exact ⟨k + 1, _, by omega, by go_num, rfl, fun j hj => by
              by_cases e : j = k
              · subst e; exact fun h => H3.out h.1
              · exact HS.out j (by omega)⟩
            case measure => simp [intOf]; omega
        · have HL := Lib.hid (leastS_eq (a := us) (b := vs) (i := i) (k := i) rfl rfl (fun j hj => HS.out j (by omega)))
          go_wp2_with fail
          go_roundw
          case rel => exact ⟨i + 1, by omega, by go_num, by rw [mtTo_keep HL.out]; exact HW.out, below_draws HG.out _⟩
          case measure => simp [intOf]; omega
    · have e : i = us.length := by omega
      subst e
      go_wp2
      go_ret2
      exact ⟨_, rfl, by rw [← mtTo_all]; exact hown, hbel⟩

end Go.Proofs.Ytdflgcfjfgojkaa
