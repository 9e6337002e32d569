/-
  Generate of the program, at pairs in range.
-/
import Derived.Test.YtdflgcfjfgojkaaCls2
namespace Go.Proofs.Ytdflgcfjfgojkaa
open Go.RowKit

/-- the slice at A reads as these pairs, in a block below B -/
def Pairs (w : World) (B : Nat) (A : Option Addr) (ps : List (Nat × Nat)) : Prop :=
  ps = [] ∨ ∃ b off, A = some ⟨b, off, none⟩ ∧ b < B ∧ ∀ i, i < ps.length → w.cell? ⟨b, off + i * 2, none⟩ = some (.int .i64 ((ps.getD i (0, 0)).1 : Nat)) ∧ w.cell? ⟨b, off + i * 2 + 1, none⟩ = some (.int .i64 ((ps.getD i (0, 0)).2 : Nat))
theorem Pairs.at {w : World} {B : Nat} {A : Option Addr} {ps : List (Nat × Nat)} (h : Pairs w B A ps) {k : Nat} (hk : k < ps.length) :
    ∃ b off, A = some ⟨b, off, none⟩ ∧ b < B ∧ w.cell? ⟨b, off + k * 2, none⟩ = some (.int .i64 ((ps.getD k (0, 0)).1 : Nat)) ∧ w.cell? ⟨b, off + k * 2 + 1, none⟩ = some (.int .i64 ((ps.getD k (0, 0)).2 : Nat)) := by
  rcases h with h | ⟨b, off, h1, h2, h3⟩
  · subst h; simp at hk
  · exact ⟨b, off, h1, h2, (h3 k hk).1, (h3 k hk).2⟩
theorem Pairs.below {w w' : World} {B : Nat} {A : Option Addr} {ps : List (Nat × Nat)} (h : Pairs w B A ps) (hb : Below B w w') : Pairs w' B A ps := by
  rcases h with h | ⟨b, off, h1, h2, h3⟩
  · exact .inl h
  · exact .inr ⟨b, off, h1, h2, fun i hi => ⟨(hb.cell (p := ⟨b, off + i * 2, none⟩) h2).trans (h3 i hi).1, (hb.cell (p := ⟨b, off + i * 2 + 1, none⟩) h2).trans (h3 i hi).2⟩⟩
theorem Pairs.mono {w : World} {B B' : Nat} {A : Option Addr} {ps : List (Nat × Nat)} (h : Pairs w B A ps) (hb : B ≤ B') : Pairs w B' A ps := by
  rcases h with h | ⟨b, off, h1, h2, h3⟩
  · exact .inl h
  · exact .inr ⟨b, off, h1, by omega, h3⟩

theorem inR_at {n : Nat} {ps : List (Nat × Nat)} (h : inR n ps) {k : Nat} (hk : k < ps.length) : (ps.getD k (0, 0)).1 < n ∧ (ps.getD k (0, 0)).2 < n :=
  h _ (by rw [List.getD, List.getElem?_eq_getElem hk]; exact List.getElem_mem hk)
theorem gen_take (n : Nat) (ps : List (Nat × Nat)) {k : Nat} (hk : k < ps.length) : genS n (ps.take (k + 1)) = mergeS (genS n (ps.take k)) (ps.getD k (0, 0)).1 (ps.getD k (0, 0)).2 := by
  unfold genS
  rw [List.take_succ_eq_append_getElem hk, merges_append]
  have e : ps[k] = ps.getD k (0, 0) := by simp [List.getD, hk]
  rw [e]
  rfl

set_option maxHeartbeats 2000000 in
theorem gen_ok (n : Nat) (ps : List (Nat × Nat)) (A : Option Addr) (c : Nat) (w : World) (hn : 0 < n) (h80 : n ≤ 80) (hl : ps.length ≤ 1000000) (hr : inR n ps) (hA : Pairs w w.heap.size A ps) :
    Calls Try.prog 30 #[.int .i64 n, .slice A ps.length c] w fun e w' => Res2 w w' (genS n ps) e := by
  have HC : Hid (Calls Try.prog 41 #[.int .i64 n, .int .i64 80] w fun e w' => e = .returned (.int .i64 0) ∧ w = w') := by
    have := checkSize_any n 80 w
    rw [show sizeS (n : Int) 80 = 0 by unfold sizeS; rw [if_neg (by omega), if_neg (by omega)]] at this
    exact this
  have HA := Lib.hid hA
  have HR := Lib.hid hr
  clear hA hr
  go_enter Try.func30, Try.ntmps30
  go_wp2_with fail
  refine HC.out.mono ?_
  rintro e w' ⟨rfl, rfl⟩
  go_wp2_with fail
  go_loopw [8, 19] (fun _ x wr => ∃ k : Nat, k ≤ ps.length ∧ x = .int .i64 k ∧ Below w.heap.size w wr) (fun _ x _ => ps.length - (intOf x).toNat)
  case atStart => exact ⟨0, Nat.zero_le _, rfl, Below.refl _ _⟩
  case round =>
    obtain ⟨k, hk, rfl, hbel⟩ := hrel
    have hsz := hbel.size
    by_cases hlt : k < ps.length
    · obtain ⟨b, off, rfl, hb, c1, c2⟩ := (HA.out.below hbel).at hlt
      obtain ⟨r1, r2⟩ := inR_at HR.out hlt
      have HG := Lib.hid hbel
      clear hbel
      generalize (ps.getD k (0, 0)).1 = x at c1 r1
      generalize (ps.getD k (0, 0)).2 = y at c2 r2
      go_wp2_with fail
      refine (isBelow_yes _ _ (by omega) (by omega) _).mono ?_
      rintro e w' ⟨rfl, rfl⟩
      go_wp2_with fail
      refine (isBelow_yes _ _ (by omega) (by omega) _).mono ?_
      rintro e w' ⟨rfl, rfl⟩
      go_wp2_with fail
      go_roundw
      case rel => exact ⟨k + 1, by omega, by go_num, HG.out.alloc hsz _⟩
      case measure => simp [intOf]; omega
    · go_wp2_with fail
      refine (finest_any n _ (by omega)).mono ?_
      rintro e w1 ⟨g, rfl, hown, hb1⟩
      have hg : w.heap.size ≤ g := Nat.le_trans hsz (hown.lt g rfl).1
      have HO := Lib.hid (hown.mono hsz)
      have HB1 := Lib.hid (hbel.trans (hb1.mono hsz))
      clear hown hb1 hbel
      go_wp2_with fail
      go_loopw [11, 40] (fun _ x wr => ∃ k : Nat, k ≤ ps.length ∧ x = .int .i64 k ∧ Own wr w.heap.size (.slice (some ⟨g, 0, none⟩) n n) (genS n (ps.take k)) ∧ Below w.heap.size w wr) (fun _ x _ => ps.length - (intOf x).toNat)
      case atStart => exact ⟨0, Nat.zero_le _, rfl, HO.out, HB1.out⟩
      case round =>
        obtain ⟨k, hk, rfl, hown, hbel⟩ := hrel
        have hsz2 := hbel.size
        have HW := Lib.hid hown
        by_cases hlt : k < ps.length
        · obtain ⟨b, off, rfl, hb, c1, c2⟩ := (HA.out.below hbel).at hlt
          obtain ⟨r1, r2⟩ := inR_at HR.out hlt
          have HG := Lib.hid hbel
          have HS := Lib.hid (gen_take n ps hlt)
          have hln := genS_length n (ps.take k)
          have HM := Lib.hid (fun w1 h => merge_n (genS n (ps.take k)) g n w.heap.size (ps.getD k (0, 0)).1 (ps.getD k (0, 0)).2 n w1 hln.symm r1 r2 (by omega) h)
          clear hbel hown hln
          generalize (ps.getD k (0, 0)).1 = x at c1 r1 HM HS
          generalize (ps.getD k (0, 0)).2 = y at c2 r2 HM HS
          go_wp2_with fail
          refine (HM.out _ (World.ownsRow.alloc HW.out _)).mono ?_
          rintro e w2 ⟨rfl, hown2, hgr2⟩
          have HW2 := Lib.hid hown2
          have HB2 := Lib.hid ((HG.out.alloc hsz2 _).trans (grown_below hgr2 hg (by simp; omega)))
          clear hown2 hgr2
          go_wp2_with fail
          go_roundw
          case rel => exact ⟨k + 1, by omega, by go_num, by rw [HS.out]; exact HW2.out, HB2.out⟩
          case measure => simp [intOf]; omega
        · have HT := Lib.hid (show genS n (ps.take k) = genS n ps by rw [List.take_of_length_le (by omega)])
          clear hown
          go_wp2
          go_ret2
          exact ⟨_, rfl, Own.cast HT.out HW.out, hbel⟩

end Go.Proofs.Ytdflgcfjfgojkaa
