/-
  Difference, the program: the search for the next use.
-/
import Derived.Test.YtcmibhechhcpiaaPClos
import Derived.Test.YtcmibhechhcpiaaDFur
import Derived.Test.YtcmibhechhcpiaaDMath
namespace Go.Proofs.Ytcmibhechhcpiaa
open Go.RowKit

def IdxEnd (l : List Arc) (a : Arc) (e : Ending) : Prop := ∃ i : Nat, l[i]? = some a ∧ e = .returned (.int .i64 i)

set_option maxRecDepth 100000 in
set_option maxHeartbeats 2000000 in
theorem index_any (k : Nat) (l : List Arc) (a : Arc) (A : Option Addr) (B c j p : Nat) (q : Int) (gs gf ga gm : Nat) (w : World) (hl : l.length ≤ 100) (hin : ∀ a ∈ l, a.f < 13 ∧ a.g < 13) (hsm : Small l) (hj : j < 13) (hq : -1000000000 ≤ q ∧ q ≤ 1000000000)
    (hs : ∀ i j, sumK l k i j < far → -1000000000 ≤ sumK l k i j ∧ sumK l k i j ≤ 1000000000) (hB : B ≤ w.heap.size) (hL : Reads EArc w B A l)
    (hM : Mat w gs (sumE l k)) (hF : w.cell? ⟨gf, 2, none⟩ = some (.int .i64 j)) (hA : w.cell? ⟨ga, 0, none⟩ = some (.int .i64 p)) (hS : w.cell? ⟨gm, 0, none⟩ = some (.int .i64 q)) (hfind : l.find? (pick l k p j q) = some a) :
    Calls Try.prog 69 #[.slice A l.length c, .func (.func 70) #[] #[.pointer (some ⟨gs, 0, none⟩), .pointer (some ⟨gf, 0, none⟩), .pointer (some ⟨ga, 0, none⟩), .pointer (some ⟨gm, 0, none⟩)]] w
      fun e w' => IdxEnd l a e ∧ Below w.heap.size w w' := by
  have HL := Lib.hid hL
  have HC : Hid (∀ (x : Arc) (u : World), x ∈ l → Below w.heap.size w u → Calls Try.prog 70 #[aval x, .pointer (some ⟨gs, 0, none⟩), .pointer (some ⟨gf, 0, none⟩), .pointer (some ⟨ga, 0, none⟩), .pointer (some ⟨gm, 0, none⟩)] u fun e w' => e = .returned (.bool (pick l k p j q x)) ∧ Below u.heap.size u w') :=
    Lib.hid fun x u hx hu => clos_any k l x j p q gs gf ga gm u (hin x hx) (hsm x hx) hj hq hs (hM.below hu hM.lt) ((hu.cell (p := ⟨gf, 2, none⟩) (block_lt_of_cell hF)).trans hF) ((hu.cell (p := ⟨ga, 0, none⟩) (block_lt_of_cell hA)).trans hA) ((hu.cell (p := ⟨gm, 0, none⟩) (block_lt_of_cell hS)).trans hS)
  have HF := Lib.hid hfind
  clear hL hin hsm hs hM hF hA hS hfind
  generalize pick l k p j q = P at HC HF
  go_enter Try.func69, Try.ntmps69
  go_wp2_with fail
  go_loopw [8] (fun vi wr => ∃ i : Nat, i ≤ l.length ∧ vi = .int .i64 i ∧ Below w.heap.size w wr ∧ (∀ x ∈ l.take i, P x = false)) (fun vi _ => l.length - (intOf vi).toNat)
  case atStart => exact ⟨0, Nat.zero_le _, rfl, Below.refl _ _, fun x hx => by simp at hx⟩
  case round =>
    obtain ⟨i, hi, rfl, hb, hno⟩ := hrel
    have HB := Lib.hid hb
    have HN := Lib.hid hno
    by_cases hlt : i < l.length
    · obtain ⟨b, off, rfl, hbb, k0, k1, k2, k3, k4⟩ := Arcs.cells ((Reads.mono HL.out hB).below hb) hlt
      have HCI := Lib.hid (HC.out l[i] wr (List.getElem_mem hlt) hb)
      have HYES : Hid (P l[i] = true → l[i]? = some a) := Lib.hid fun h => by
        rw [List.getElem?_eq_getElem hlt]
        have := find_at hlt hno h
        rw [HF.out] at this
        exact this.symm
      have HNO : Hid (P l[i] = false → ∀ x ∈ l.take (i + 1), P x = false) := Lib.hid fun h x hx => by
        rw [List.take_succ_eq_append_getElem hlt, List.mem_append] at hx
        rcases hx with hx | hx
        · exact hno x hx
        · simp at hx; rw [hx]; exact h
      have q0 : (0 : Int) ≤ (i : Int) := by omega
      have q1 : (i : Int) < (l.length : Int) := by omega
      have q2 : ((i : Int)).toNat = i := by omega
      generalize l[i] = x at k0 k1 k2 k3 k4 HCI HYES HNO
      generalize P x = z at HCI HYES HNO
      obtain ⟨xt, xs, xf, xg, xc⟩ := x
      dsimp only at k0 k1 k2 k3 k4
      have hsz := hb.size
      clear hb hno
      go_wp2_with fail
      refine HCI.out.mono ?_
      rintro e w2 ⟨rfl, hb2⟩
      have HB2 := Lib.hid (HB.out.trans (hb2.mono hsz))
      clear hb2
      cases z
      case true =>
        have HY := Lib.hid (HYES.out rfl)
        clear HYES HNO HCI
        go_wp2_with fail
        go_ret
        exact ⟨⟨i, HY.out, rfl⟩, HB2.out⟩
      case false =>
        have HX := Lib.hid (HNO.out rfl)
        clear HYES HNO HCI
        go_wp2_with fail
        go_roundw
        case rel => exact ⟨i + 1, by omega, by go_num, HB2.out, HX.out⟩
        case measure => simp [intOf]; omega
    · exfalso
      have e : i = l.length := by omega
      rw [e, List.take_length] at hno
      have h1 := hno a (List.mem_of_find?_eq_some HF.out)
      rw [List.find?_some HF.out] at h1
      cases h1

end Go.Proofs.Ytcmibhechhcpiaa
