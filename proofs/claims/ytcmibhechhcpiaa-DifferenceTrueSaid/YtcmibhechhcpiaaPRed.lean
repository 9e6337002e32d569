/-
  Difference, the program: Reduce.
-/
import Derived.Test.YtcmibhechhcpiaaPImp
import Derived.Test.YtcmibhechhcpiaaPValid
import Derived.Test.YtcmibhechhcpiaaDRed
namespace Go.Proofs.Ytcmibhechhcpiaa
open Go.RowKit

set_option maxRecDepth 100000 in
set_option maxHeartbeats 4000000 in
theorem preduce_any (n : Int) (xs : List Tst) (A : Option Addr) (c : Nat) (w : World) (hl : xs.length ≤ maxLen) (hT : Tsts w w.heap.size A xs) :
    Calls Try.prog 34 #[.int .i64 n, .slice A xs.length c] w fun e w' => Below w.heap.size w w' ∧
      ((validS n xs ≠ 0 ∧ e = .returned (.tuple #[.slice none 0 0, .int .i64 (validS n xs)])) ∨
       (validS n xs = 0 ∧ ∃ v res, e = .returned (.tuple #[v, .int .i64 0]) ∧ OwnT w' w.heap.size v res ∧ RedTo xs [] res)) := by
  have HV := Lib.hid (pvalid_any n xs A c w hl hT)
  have HT := Lib.hid hT
  by_cases hv : validS n xs = 0
  · obtain ⟨⟨hn0, hn12⟩, hl40, hg⟩ := validS_zero.1 hv
    rw [hv] at HV
    obtain ⟨m, rfl⟩ : ∃ m : Nat, n = m := ⟨n.toNat, by omega⟩
    have hm : m ≤ 12 := by omega
    have HG := Lib.hid hg
    have hv0 := hv
    clear hT hg hv hn0 hn12
    go_enter Try.func34, Try.ntmps34
    go_wp2_with fail
    refine HV.out.mono ?_
    rintro e w1 ⟨rfl, hb1⟩
    have HB1 := Lib.hid hb1
    clear hb1
    go_wp2_with fail
    go_loopw [7, 18] (fun v ii wr => ∃ (k : Nat) (out : List Tst), k ≤ xs.length ∧ ii = .int .i64 k ∧ OwnT wr w.heap.size v out ∧ out.length ≤ k ∧ (∀ x ∈ out, Good m x) ∧ (∀ res, RedTo (xs.drop k) out res → RedTo xs [] res) ∧ Below w.heap.size w wr) (fun _ ii _ => xs.length - (intOf ii).toNat)
    case atStart => exact ⟨0, [], Nat.zero_le _, rfl, OwnE.nil _ _ _, Nat.le_refl _, (fun x hx => by simp at hx), (fun res h => h), HB1.out⟩
    case round =>
      obtain ⟨k, out, hk, rfl, hown, hlen, hgo, hred, hb⟩ := hrel
      by_cases hlt : k < xs.length
      · obtain ⟨b, off, rfl, hbb, k0, k1, k2, k3, k4⟩ := Tsts.cells (Reads.below HT.out hb) hlt
        have hdrop : xs.drop k = xs[k] :: xs.drop (k + 1) := List.drop_eq_getElem_cons hlt
        have HR : Hid (∀ res, RedTo (xs[k] :: xs.drop (k + 1)) out res → RedTo xs [] res) := Lib.hid (by rw [← hdrop]; exact hred)
        have HGX := Lib.hid (HG.out _ (List.getElem_mem hlt))
        obtain ⟨A1, c1, rfl⟩ := OwnE.slice hown
        have HI := Lib.hid (fun u hu => pimplies_any m out A1 c1 xs[k] u hm (by omega) hgo HGX.out hu)
        have hk0 : (0 : Int) ≤ (k : Int) := by omega
        have hk1 : (k : Int) < (xs.length : Int) := by omega
        have hk2 : ((k : Int)).toNat = k := by omega
        generalize xs[k] = x at k0 k1 k2 k3 k4 HR HGX HI
        obtain ⟨q, lv, la, rv, ra⟩ := x
        dsimp only at k0 k1 k2 k3 k4
        have HO := Lib.hid hown
        have HB := Lib.hid hb
        have HGO := Lib.hid hgo
        have hsz := hb.size
        clear hred hdrop hown hb hgo
        go_wp2_with fail
        refine (HI.out _ (HO.out.alloc _).read).mono ?_
        rintro e w2 ⟨⟨z, rfl, hz⟩, hb2⟩
        have hb2' := below_one hb2
        have k0' := (hb2'.cell (p := ⟨wr.heap.size, 0, none⟩) (by simp)).trans (show _ = some (Value.int .i64 q) from by simp)
        have k1' := (hb2'.cell (p := ⟨wr.heap.size, 1, none⟩) (by simp)).trans (show _ = some (Value.int .i64 lv) from by simp)
        have k2' := (hb2'.cell (p := ⟨wr.heap.size, 2, none⟩) (by simp)).trans (show _ = some (Value.int .i64 la) from by simp)
        have k3' := (hb2'.cell (p := ⟨wr.heap.size, 3, none⟩) (by simp)).trans (show _ = some (Value.int .i64 rv) from by simp)
        have k4' := (hb2'.cell (p := ⟨wr.heap.size, 4, none⟩) (by simp)).trans (show _ = some (Value.int .i64 ra) from by simp)
        have HZ := Lib.hid hz
        have HO2 := Lib.hid ((HO.out.alloc (.cells #[.int .i64 q, .int .i64 lv, .int .i64 la, .int .i64 rv, .int .i64 ra] 32 (0, 0))).below hb2 (Nat.le_refl _))
        have HB2 := Lib.hid ((HB.out.alloc hsz (.cells #[.int .i64 q, .int .i64 lv, .int .i64 la, .int .i64 rv, .int .i64 ra] 32 (0, 0))).trans (hb2.mono (by simp; omega)))
        have hsz2 := HB2.out.size
        clear hz hb2 hb2' HI k0 k1 k2 k3 k4 HO HB
        cases z
        case true =>
          have HX : Hid (∀ res, RedTo (xs.drop (k + 1)) out res → RedTo xs [] res) := Lib.hid fun res h => HR.out res (.inl ⟨HZ.out.1 rfl, h⟩)
          go_wp2_with fail
          go_roundw
          case rel => exact ⟨k + 1, out, by omega, by go_num, HO2.out, by omega, HGO.out, HX.out, HB2.out⟩
          case measure => simp [intOf]; omega
        case false =>
          have HX : Hid (∀ res, RedTo (xs.drop (k + 1)) (out ++ [⟨q, lv, la, rv, ra⟩]) res → RedTo xs [] res) := Lib.hid fun res h => HR.out res (.inr ⟨fun h2 => (by have := HZ.out.2 h2; cases this), h⟩)
          go_wp2_with (at_builtin; refine wpList_append_tst (w := World.alloc _ _) rfl _ _ rfl w.heap.size _ out rfl ?y1 w2.heap.size 1 ⟨q, lv, la, rv, ra⟩ rfl ?y2 ?y3 ?y4 ?_)
          case y1 => exact HO2.out.alloc _
          case y2 => simp [World.alloc, -World.alloc_eq]
          case y3 => omega
          case y4 => simp; omega
          intro v3 w3 hown3 _ hb3
          have HO3 := Lib.hid hown3
          have HB3 := Lib.hid ((HB2.out.alloc hsz2 _).trans hb3)
          have HG3 : Hid (∀ x ∈ out ++ [(⟨q, lv, la, rv, ra⟩ : Tst)], Good m x) := Lib.hid fun x hx => by
            rw [List.mem_append] at hx
            rcases hx with hx | hx
            · exact HGO.out x hx
            · simp at hx; rw [hx]; exact HGX.out
          clear hown3 hb3
          go_wp2_with fail
          go_roundw
          case rel => exact ⟨k + 1, _, by omega, by go_num, HO3.out, by simp; omega, HG3.out, HX.out, HB3.out⟩
          case measure => simp [intOf]; omega
      · have e : k = xs.length := by omega
        rw [e, List.drop_length] at hred
        have HX := Lib.hid (hred out rfl)
        have HO := Lib.hid hown
        have HB := Lib.hid hb
        clear hred hown hb hgo e
        go_wp2_with fail
        go_ret2
        exact ⟨HB.out, .inr ⟨hv0, _, out, rfl, HO.out, HX.out⟩⟩
  · generalize validS n xs = e1 at HV hv ⊢
    have t1 : ((e1 : Int) != 0) = true := by simp; omega
    clear hT
    go_enter Try.func34, Try.ntmps34
    go_wp2_with fail
    refine HV.out.mono ?_
    rintro e w1 ⟨rfl, hb1⟩
    have HB1 := Lib.hid hb1
    clear hb1
    go_wp2_with fail
    go_ret2
    exact ⟨HB1.out, .inl ⟨hv, rfl⟩⟩

end Go.Proofs.Ytcmibhechhcpiaa
