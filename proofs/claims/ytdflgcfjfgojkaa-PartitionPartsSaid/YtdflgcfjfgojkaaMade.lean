/-
  Made of the reference: the partition that bytes describe.
-/
import Derived.Test.YtdflgcfjfgojkaaGen
namespace Go.Proofs.Ytdflgcfjfgojkaa
open Go.RowKit

/-- the slice at A reads as these bytes, in a block below B -/
def Byts (w : World) (B : Nat) (A : Option Addr) (bs : List Nat) : Prop :=
  bs = [] ∨ ∃ b off, A = some ⟨b, off, none⟩ ∧ b < B ∧ ∀ i, i < bs.length → at_ bs i < 256 ∧ w.cell? ⟨b, off + i, none⟩ = some (.int .u8 (at_ bs i : Nat))
theorem Byts.at {w : World} {B : Nat} {A : Option Addr} {bs : List Nat} (h : Byts w B A bs) {k : Nat} (hk : k < bs.length) :
    ∃ b off, A = some ⟨b, off, none⟩ ∧ b < B ∧ at_ bs k < 256 ∧ w.cell? ⟨b, off + k, none⟩ = some (.int .u8 (at_ bs k : Nat)) := by
  rcases h with h | ⟨b, off, h1, h2, h3⟩
  · subst h; simp at hk
  · exact ⟨b, off, h1, h2, (h3 k hk).1, (h3 k hk).2⟩
theorem Byts.below {w w' : World} {B : Nat} {A : Option Addr} {bs : List Nat} (h : Byts w B A bs) (hb : Below B w w') : Byts w' B A bs := by
  rcases h with h | ⟨b, off, h1, h2, h3⟩
  · exact .inl h
  · exact .inr ⟨b, off, h1, h2, fun i hi => ⟨(h3 i hi).1, (hb.cell (p := ⟨b, off + i, none⟩) h2).trans (h3 i hi).2⟩⟩
theorem Byts.mono {w : World} {B B' : Nat} {A : Option Addr} {bs : List Nat} (h : Byts w B A bs) (hb : B ≤ B') : Byts w B' A bs := by
  rcases h with h | ⟨b, off, h1, h2, h3⟩
  · exact .inl h
  · exact .inr ⟨b, off, h1, by omega, h3⟩
theorem Byts.up {w w' : World} {A : Option Addr} {bs : List Nat} (h : Byts w w.heap.size A bs) (hb : Below w.heap.size w w') : Byts w' w'.heap.size A bs :=
  (h.below hb).mono hb.size
theorem Byts.take {w : World} {B : Nat} {A : Option Addr} {bs : List Nat} (h : Byts w B A bs) (n : Nat) : Byts w B A (bs.take n) := by
  rcases h with h | ⟨b, off, h1, h2, h3⟩
  · exact .inl (by rw [h]; simp)
  · refine .inr ⟨b, off, h1, h2, fun i hi => ?_⟩
    rw [List.length_take] at hi
    rw [at_take (by omega)]
    exact h3 i (by omega)

def madeOne (p : List Nat) (x : Nat) : Nat := if x % (p.length + 2) < p.length then at_ p (x % (p.length + 2)) else p.length
def madeTo (bs : List Nat) : Nat → List Nat
  | 0 => []
  | k + 1 => madeTo bs k ++ [madeOne (madeTo bs k) (at_ bs k)]
def madeS (bs : List Nat) : List Nat := madeTo bs (min bs.length 12)
theorem madeTo_length (bs : List Nat) (k : Nat) : (madeTo bs k).length = k := by
  induction k with
  | zero => rfl
  | succ k ih => simp [madeTo, ih]
theorem madeS_length (bs : List Nat) : (madeS bs).length = min bs.length 12 := madeTo_length _ _
theorem at_snoc_lt {p : List Nat} {x i : Nat} (h : i < p.length) : at_ (p ++ [x]) i = at_ p i := by
  unfold at_
  rw [List.getD_eq_getElem?_getD, List.getD_eq_getElem?_getD, List.getElem?_append_left h]
theorem at_snoc (p : List Nat) (x : Nat) : at_ (p ++ [x]) p.length = x := by
  unfold at_
  rw [List.getD_eq_getElem?_getD, List.getElem?_append_right (Nat.le_refl _)]
  simp
theorem V_snoc {p : List Nat} (h : V p) (x : Nat) : V (p ++ [madeOne p x]) := by
  intro i hi
  rw [List.length_append, List.length_singleton] at hi
  by_cases h1 : i < p.length
  · rw [at_snoc_lt h1, at_snoc_lt (h.lt h1)]
    exact h i h1
  · have e : i = p.length := by omega
    subst e
    rw [at_snoc]
    unfold madeOne
    split
    · rename_i h2
      have h3 := h.lt h2
      rw [at_snoc_lt h3]
      exact ⟨by omega, h.idem h2⟩
    · rename_i h2
      refine ⟨Nat.le_refl _, ?_⟩
      have := at_snoc p (madeOne p x)
      unfold madeOne at this
      rw [if_neg h2] at this
      exact this
theorem V_madeTo (bs : List Nat) (k : Nat) : V (madeTo bs k) := by
  induction k with
  | zero => intro i hi; simp [madeTo] at hi
  | succ k ih => exact V_snoc ih _
theorem V_made (bs : List Nat) : V (madeS bs) := V_madeTo _ _

set_option maxHeartbeats 2000000 in
theorem made_any (bs : List Nat) (A : Option Addr) (c : Nat) (w : World) (hl : bs.length ≤ maxLen) (hT : Byts w w.heap.size A bs) :
    Calls Try.prog 29 #[.slice A bs.length c] w fun e w' => ∃ v, e = .returned v ∧ Own w' w.heap.size v (madeS bs) ∧ Below w.heap.size w w' := by
  unfold maxLen at hl
  have HT := Lib.hid hT
  clear hT
  go_enter Try.func29, Try.ntmps29
  go_wp2_with fail
  go_loopw [3, 4] (fun v x wr => ∃ k : Nat, k ≤ bs.length ∧ k ≤ 12 ∧ x = .int .i64 k ∧ Own wr w.heap.size v (madeTo bs k) ∧ Below w.heap.size w wr) (fun _ x _ => 12 - (intOf x).toNat)
  case atStart => exact ⟨0, Nat.zero_le _, Nat.zero_le _, rfl, World.ownsRow_nil _ _ _ _, Below.refl _ _⟩
  case round =>
    obtain ⟨k, hk, hk12, rfl, hown, hbel⟩ := hrel
    have hsz := hbel.size
    have HW := Lib.hid hown
    have HG := Lib.hid hbel
    have hln := madeTo_length bs k
    have hV := V_madeTo bs k
    by_cases hlt : k < bs.length
    · by_cases h12 : k < 12
      · obtain ⟨b, off, rfl, hb, hx, ck⟩ := (HT.out.below hbel).at hlt
        have HS := Lib.hid (show madeTo bs (k + 1) = madeTo bs k ++ [madeOne (madeTo bs k) (at_ bs k)] from rfl)
        generalize at_ bs k = x at hx ck HS
        have hlen : (madeTo bs k).length ≤ 12 := by omega
        have hr2 : x % (k + 2) < k + 2 := Nat.mod_lt _ (by omega)
        have hrm : (x : Int) % ((k : Int) + 2) = ((x % (k + 2) : Nat) : Int) := by simp
        have HM : Hid (madeOne (madeTo bs k) x = if x % (k + 2) < k then at_ (madeTo bs k) (x % (k + 2)) else k) := by
          unfold madeOne
          rw [hln]
          exact Lib.hid rfl
        generalize x % (k + 2) = r at hr2 hrm HM
        by_cases hrk : r < k
        · obtain ⟨g, cp, hv, hg⟩ := hown.slice_pos (by omega)
          subst hv
          have gl : wr.cell? ⟨g, r, none⟩ = some (.int .i64 (at_ (madeTo bs k) r : Nat)) := Own.cell hown (by omega)
          have HM2 := Lib.hid (show madeOne (madeTo bs k) x = at_ (madeTo bs k) r by rw [HM.out, if_pos hrk])
          have HLN := Lib.hid hln
          have hrl : r < (madeTo bs k).length := by omega
          clear hown hbel hV hln
          generalize madeOne (madeTo bs k) x = z at HM2 HS
          generalize at_ (madeTo bs k) r = y at gl HM2
          generalize madeTo bs k = ms at HW HS hlen HLN hrl
          go_wp2_with (at_builtin; refine wpList_append_int (w := wr.alloc _) rfl _ _ rfl w.heap.size _ ms rfl ?y1 ⟨wr.heap.size, 0, none⟩ 1 y rfl ?y2 ?y3 ?y4 ?_)
          case y1 => exact World.ownsRow.alloc HW.out _
          case y2 => exact cell_new _ _ _
          case y3 => omega
          case y4 => simp; omega
          intro v3 w3 hown3 _ hb3
          have HW3 := Lib.hid hown3
          have HB3 := Lib.hid ((HG.out.alloc hsz _).trans hb3)
          clear hown3 hb3
          go_wp2_with fail
          go_roundw
          case rel => exact ⟨k + 1, by omega, by omega, by go_num, by rw [HS.out, HM2.out]; exact HW3.out, HB3.out⟩
          case measure => simp [intOf]; omega
        · have HM2 := Lib.hid (show madeOne (madeTo bs k) x = k by rw [HM.out, if_neg hrk])
          obtain ⟨ao, cp, hv⟩ := slice_of hown
          subst hv
          clear hown hbel hV hln
          generalize madeOne (madeTo bs k) x = z at HM2 HS
          generalize madeTo bs k = ms at HW HS hlen
          by_cases hrk2 : k < r
          · go_wp2_with (at_builtin; refine wpList_append_int (w := wr.alloc _) rfl _ _ rfl w.heap.size _ ms rfl ?y1 ⟨wr.heap.size, 0, none⟩ 1 k rfl ?y2 ?y3 ?y4 ?_)
            case y1 => exact World.ownsRow.alloc HW.out _
            case y2 => exact cell_new _ _ _
            case y3 => omega
            case y4 => simp; omega
            intro v3 w3 hown3 _ hb3
            have HW3 := Lib.hid hown3
            have HB3 := Lib.hid ((HG.out.alloc hsz _).trans hb3)
            clear hown3 hb3
            go_wp2_with fail
            go_roundw
            case rel => exact ⟨k + 1, by omega, by omega, by go_num, by rw [HS.out, HM2.out]; exact HW3.out, HB3.out⟩
            case measure => simp [intOf]; omega
          · have e : r = k := by omega
            subst e
            go_wp2_with (at_builtin; refine wpList_append_int (w := wr.alloc _) rfl _ _ rfl w.heap.size _ ms rfl ?y1 ⟨wr.heap.size, 0, none⟩ 1 r rfl ?y2 ?y3 ?y4 ?_)
            case y1 => exact World.ownsRow.alloc HW.out _
            case y2 => exact cell_new _ _ _
            case y3 => omega
            case y4 => simp; omega
            intro v3 w3 hown3 _ hb3
            have HW3 := Lib.hid hown3
            have HB3 := Lib.hid ((HG.out.alloc hsz _).trans hb3)
            clear hown3 hb3
            go_wp2_with fail
            go_roundw
            case rel => exact ⟨r + 1, by omega, by omega, by go_num, by rw [HS.out, HM2.out]; exact HW3.out, HB3.out⟩
            case measure => simp [intOf]; omega
      · have HS := Lib.hid (show madeTo bs k = madeS bs by unfold madeS; rw [show min bs.length 12 = k by omega])
        have e : k = 12 := by omega
        subst e
        clear hown hV hln
        go_wp2
        go_ret
        exact ⟨_, rfl, Own.cast HS.out HW.out, hbel⟩
    · have HS := Lib.hid (show madeTo bs k = madeS bs by unfold madeS; rw [show min bs.length 12 = k by omega])
      clear hown hV hln
      go_wp2
      go_ret
      exact ⟨_, rfl, Own.cast HS.out HW.out, hbel⟩

end Go.Proofs.Ytdflgcfjfgojkaa
