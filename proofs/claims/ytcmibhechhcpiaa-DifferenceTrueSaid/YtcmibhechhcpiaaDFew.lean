/-
  Difference: few of the law: the tests of codes.
-/
import Derived.Test.YtcmibhechhcpiaaDMade
namespace Go.Proofs.Ytcmibhechhcpiaa
open Go.RowKit

abbrev Code4 : Type := Int × Int × Int × Int
def ECode : El Code4 := ⟨fun x => [.int .i8 x.1, .int .i8 x.2.1, .int .i8 x.2.2.1, .int .i8 x.2.2.2], 4, fun _ => rfl, fun x u hu => by simp at hu; rcases hu with rfl | rfl | rfl | rfl <;> rfl⟩
abbrev Codes (w : World) (B : Nat) (A : Option Addr) (xs : List Code4) : Prop := Reads ECode w B A xs
theorem Codes.cells {w : World} {B : Nat} {A : Option Addr} {xs : List Code4} (h : Codes w B A xs) {k : Nat} (hk : k < xs.length) :
    ∃ b off, A = some ⟨b, off, none⟩ ∧ b < B ∧ w.cell? ⟨b, off + k * 4, none⟩ = some (.int .i8 xs[k].1) ∧ w.cell? ⟨b, off + k * 4 + 1, none⟩ = some (.int .i8 xs[k].2.1) ∧ w.cell? ⟨b, off + k * 4 + 2, none⟩ = some (.int .i8 xs[k].2.2.1) ∧ w.cell? ⟨b, off + k * 4 + 3, none⟩ = some (.int .i8 xs[k].2.2.2) := by
  obtain ⟨b, off, h1, h2, h3⟩ := Reads.at h hk
  exact ⟨b, off, h1, h2, h3 k hk 0 _ rfl, h3 k hk 1 _ rfl, h3 k hk 2 _ rfl, h3 k hk 3 _ rfl⟩
def C8 (x : Code4) : Prop := I8 x.1 ∧ I8 x.2.1 ∧ I8 x.2.2.1 ∧ I8 x.2.2.2
def madeC (n : Int) (x : Code4) : Tst := madeS n x.1 x.2.1 x.2.2.1 x.2.2.2
def fewS (n : Int) (cs : List Code4) : List Tst := cs.map (madeC n)
theorem fewS_len (n : Int) (cs : List Code4) : (fewS n cs).length = cs.length := by simp [fewS]
theorem fewS_good {n : Int} (hn : 0 ≤ n) (cs : List Code4) : ∀ x ∈ fewS n cs, Good n x := by
  intro x hx
  unfold fewS at hx
  rw [List.mem_map] at hx
  obtain ⟨y, _, rfl⟩ := hx
  exact made_good hn _ _ _ _

set_option maxRecDepth 100000 in
set_option maxHeartbeats 2000000 in
theorem few_any (n : Int) (cs : List Code4) (A : Option Addr) (c : Nat) (w : World) (hn : 0 ≤ n) (hn2 : n ≤ 255) (hl : cs.length ≤ 1000) (h8 : ∀ x ∈ cs, C8 x) (hT : Codes w w.heap.size A cs) :
    Calls Try.prog 37 #[.int .u8 n, .slice A cs.length c] w fun e w' => ∃ v, e = .returned (.tuple #[.int .i64 (n % 6), v]) ∧ OwnT w' w.heap.size v (fewS (n % 6) cs) ∧ Below w.heap.size w w' := by
  have HT := Lib.hid hT
  have H8 := Lib.hid h8
  have hq := Lib.hid (Int.tmod_eq_emod_of_nonneg (b := 6) hn)
  have q0 := Int.emod_nonneg n (show (6 : Int) ≠ 0 by omega)
  have q1 := Int.emod_lt_of_pos n (show (0 : Int) < 6 by omega)
  clear hT h8
  go_enter Try.func37, Try.ntmps37
  go_wp2_with fail
  go_loopw [7, 15] (fun v ii wr => ∃ k : Nat, k ≤ cs.length ∧ ii = .int .i64 k ∧ OwnT wr w.heap.size v ((fewS (n % 6) cs).take k) ∧ Below w.heap.size w wr) (fun _ ii _ => cs.length - (intOf ii).toNat)
  case atStart => exact ⟨0, Nat.zero_le _, rfl, OwnE.nil _ _ _, Below.refl _ _⟩
  case round =>
    obtain ⟨k, hk, rfl, hown, hb⟩ := hrel
    by_cases hlt : k < cs.length
    · obtain ⟨b, off, rfl, hbb, k0, k1, k2, k3⟩ := Codes.cells (Reads.below HT.out hb) hlt
      obtain ⟨g0, g1, g2, g3⟩ := H8.out _ (List.getElem_mem hlt)
      have HM := Lib.hid (fun u => made_any (n % 6) cs[k].1 cs[k].2.1 cs[k].2.2.1 cs[k].2.2.2 u q0 (by omega) g0 g1 g2 g3)
      have HX : Hid ((fewS (n % 6) cs).take (k + 1) = (fewS (n % 6) cs).take k ++ [madeS (n % 6) cs[k].1 cs[k].2.1 cs[k].2.2.1 cs[k].2.2.2]) := Lib.hid (by
        rw [List.take_succ_eq_append_getElem (by rw [fewS_len]; exact hlt)]
        simp [fewS, madeC])
      have hlen : ((fewS (n % 6) cs).take k).length = k := by rw [List.length_take, fewS_len]; omega
      obtain ⟨A1, c1, rfl⟩ := OwnE.slice hown
      rw [hlen] at hown ⊢
      have HLEN := Lib.hid hlen
      have i0 : (0 : Int) ≤ (k : Int) := by omega
      have i1 : (k : Int) < (cs.length : Int) := by omega
      have i2 : ((k : Int)).toNat = k := by omega
      generalize cs[k] = x at k0 k1 k2 k3 HM HX
      obtain ⟨x0, x1, x2, x3⟩ := x
      dsimp only at k0 k1 k2 k3 HM HX
      have HO := Lib.hid hown
      have HB := Lib.hid hb
      have hsz := hb.size
      generalize madeS (n % 6) x0 x1 x2 x3 = M at HM HX
      obtain ⟨mk, mlv, mla, mrv, mra⟩ := M
      clear hown hb hlen g0 g1 g2 g3
      go_wp2_with fail
      refine (HM.out _).mono ?_
      rintro e w1 ⟨rfl, hb1⟩
      have HO1 := Lib.hid ((HO.out.alloc _).below hb1 (Nat.le_refl _))
      have HB1 := Lib.hid ((HB.out.alloc hsz _).trans (hb1.mono (by simp; omega)))
      have hsz1 := HB1.out.size
      clear hb1 HO HB k0 k1 k2 k3
      go_wp2_with (at_builtin; refine wpList_append_tst (w := World.alloc _ _) rfl _ _ rfl w.heap.size _ ((fewS (n % 6) cs).take k) rfl ?y1 w1.heap.size 1 ⟨mk, mlv, mla, mrv, mra⟩ rfl ?y2 ?y3 ?y4 ?_)
      case y1 => exact HO1.out.alloc _
      case y2 => simp [World.alloc, -World.alloc_eq]
      case y3 => rw [HLEN.out]; omega
      case y4 => simp; omega
      intro v2 w2 hown2 _ hb2
      have HO2 := Lib.hid hown2
      have HB2 := Lib.hid ((HB1.out.alloc hsz1 _).trans hb2)
      clear hown2 hb2
      go_wp2_with fail
      go_roundw
      case rel => exact ⟨k + 1, by omega, by go_num, by rw [HX.out]; exact HO2.out, HB2.out⟩
      case measure => simp [intOf]; omega
    · have e : k = cs.length := by omega
      rw [e, List.take_of_length_le (by rw [fewS_len]; omega)] at hown
      have HO := Lib.hid hown
      have HB := Lib.hid hb
      clear hown hb e
      go_wp2_with fail
      go_ret2
      exact ⟨_, rfl, HO.out, HB.out⟩

end Go.Proofs.Ytcmibhechhcpiaa
