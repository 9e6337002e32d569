/-
  Types: in, names, attribute of the reference.
-/
import Derived.Test.YtgpcaofikmdpjaaTPlain
namespace Go.Proofs.Ytgpcaofikmdpjaa
open Go.RowKit

theorem str_ne {a b : ByteArray} (h : ¬ a = b) : (a.toList == b.toList) = false := by
  cases hb : (a.toList == b.toList) with
  | false => rfl
  | true =>
    exfalso
    have h2 := eq_of_beq hb
    rw [ByteArray.toList_eq, ByteArray.toList_eq] at h2
    exact h (ByteArray.ext (Array.ext' h2))
/-- what is asked of a function that says whether a text is a name -/
def NameC (f : FuncId) : Prop := ∀ (s : ByteArray) (w : World), s.size ≤ 40 → Calls Try.prog f #[.string s] w fun e w' => e = .returned (.bool (isNm s)) ∧ Below w.heap.size w w'

theorem in_any (n l h : Int) (w : World) : Calls Try.prog 47 #[.int .i64 n, .int .i64 l, .int .i64 h] w fun e w' => e = .returned (.bool (inB n l h)) ∧ w = w' := by
  by_cases h1 : l ≤ n
  · have H := Lib.hid (show inB n l h = decide (n ≤ h) by unfold inB; rw [decide_eq_true h1, Bool.true_and])
    have t1 : decide (l ≤ n) = true := decide_eq_true h1
    go_enter Try.func47, Try.ntmps47
    go_wp2_with fail
    go_ret
    exact ⟨ret_bool H.out.symm, rfl⟩
  · have H := Lib.hid (show inB n l h = false by unfold inB; rw [decide_eq_false h1, Bool.false_and])
    have t1 : decide (l ≤ n) = false := decide_eq_false h1
    go_enter Try.func47, Try.ntmps47
    go_wp2_with fail
    go_ret
    exact ⟨ret_bool H.out.symm, rfl⟩

set_option maxRecDepth 100000 in
set_option maxHeartbeats 1000000 in
theorem names_any (hn : NameC 55) (l : List ByteArray) (A : Option Addr) (c : Nat) (w : World) (hl : l.length ≤ maxLen) (hs : ∀ s ∈ l, s.size ≤ 40) (hT : Strs w w.heap.size A l) :
    Calls Try.prog 70 #[.slice A l.length c] w fun e w' => e = .returned (.int .i64 (namesE l)) ∧ Below w.heap.size w w' := by
  unfold maxLen at hl
  by_cases h20 : 20 < l.length
  · have H := Lib.hid (show namesE l = 3 by unfold namesE; rw [if_pos h20])
    clear hT hs
    go_enter Try.func70, Try.ntmps70
    go_wp2_with fail
    go_ret
    exact ⟨ret_int (by rw [H.out]; rfl), Below.refl _ _⟩
  · have H := Lib.hid (show namesE l = nzD (nameAt l) 0 (l.length - 0) by unfold namesE; rw [if_neg h20]; rfl)
    have HT := Lib.hid hT
    have HN := Lib.hid (fun (k : Nat) (hk : k < l.length) u => hn l[k] u (hs _ (List.getElem_mem hk)))
    have hl20 : l.length ≤ 20 := by omega
    generalize namesE l = R at H ⊢
    clear hT hs hn h20 hl
    go_enter Try.func70, Try.ntmps70
    go_wp2_with fail
    go_loopw [3] (fun ii wr => ∃ k : Nat, k ≤ l.length ∧ ii = .int .i64 k ∧ R = nzD (nameAt l) k (l.length - k) ∧ Below w.heap.size w wr) (fun ii _ => l.length - (intOf ii).toNat)
    case atStart => exact ⟨0, Nat.zero_le _, rfl, H.out, Below.refl _ _⟩
    case round =>
      obtain ⟨k, hk, rfl, hR, hB⟩ := hrel
      by_cases hlt : k < l.length
      · obtain ⟨wo, hwo⟩ : ∃ wo, wo = wr := ⟨_, rfl⟩
        subst hwo
        obtain ⟨b, off, rfl, hbb, k0⟩ := Strs.cell (Reads.below HT.out hB) hlt
        have HI := Lib.hid (HN.out k hlt)
        rw [name_step hlt] at hR
        have HRS := Lib.hid hR
        have HEQ : Hid (∀ (j : Nat) (hj : j < l.length), j < k → l[j] = l[k] → (l.take k).any (fun s => decide (s = l[k])) = true) := Lib.hid fun j hj hjk h =>
          List.any_eq_true.2 ⟨l[j], List.mem_take_iff_getElem.2 ⟨j, by omega, rfl⟩, decide_eq_true h⟩
        generalize l[k] = s at k0 HI HRS HEQ
        have i0 : (0 : Int) ≤ (k : Int) := by omega
        have i1 : (k : Int) < (l.length : Int) := by omega
        have i2 : ((k : Int)).toNat = k := by omega
        have hsz := hB.size
        have HB := Lib.hid hB
        clear hB hR
        cases hnm : isNm s with
        | false =>
          have HR : Hid (R = 2) := Lib.hid (by rw [HRS.out, if_pos hnm])
          rw [hnm] at HI
          clear hnm HRS HEQ
          go_wp2_with fail
          refine (HI.out _).mono ?_
          rintro e w2 ⟨rfl, hb2⟩
          have HB2 := Lib.hid (HB.out.trans (hb2.mono hsz))
          clear hb2
          go_wp2_with fail
          go_ret
          exact ⟨ret_int (by rw [HR.out]; rfl), HB2.out⟩
        | true =>
          have HR : Hid (R = if (l.take k).any (fun x => decide (x = s)) then 5 else nzD (nameAt l) (k + 1) (l.length - (k + 1))) := Lib.hid (by
            rw [HRS.out, if_neg (by rw [hnm]; simp)])
          rw [hnm] at HI
          clear hnm HRS
          go_wp2_with fail
          refine (HI.out _).mono ?_
          rintro e w2 ⟨rfl, hb2⟩
          have HB2 := Lib.hid (HB.out.trans (hb2.mono hsz))
          have k0' := (hb2.cell (p := ⟨b, off + k, none⟩) (Nat.lt_of_lt_of_le hbb hsz)).trans k0
          clear hb2 HB HI k0
          go_wp2_with fail
          go_loopw [4] (fun jj ws => ∃ j : Nat, j ≤ k ∧ jj = .int .i64 j ∧ (∀ x ∈ l.take j, x ≠ s) ∧ Below w.heap.size w ws ∧ ws.cell? ⟨b, off + k, none⟩ = some (.string s)) (fun jj _ => k - (intOf jj).toNat)
          case atStart => exact ⟨0, Nat.zero_le _, rfl, (fun s hs => by simp at hs), HB2.out, k0'⟩
          case round =>
            obtain ⟨j, hj, rfl, hno, hB, kk⟩ := hrel
            by_cases hjk : j < k
            · have hjl : j < l.length := Nat.lt_of_lt_of_le hjk hk
              obtain ⟨b', off', hE, _, j0⟩ := Strs.cell (Reads.below HT.out hB) hjl
              simp only [Option.some.injEq, Addr.mk.injEq, and_true] at hE
              obtain ⟨rfl, rfl⟩ := hE
              have n0 : (0 : Int) ≤ (j : Int) := by omega
              have n1 : (j : Int) < (l.length : Int) := by omega
              have n2 : ((j : Int)).toNat = j := by omega
              have t1 : decide ((j : Int) < (k : Int)) = true := decide_eq_true (by omega)
              have HB3 := Lib.hid hB
              have KK := Lib.hid kk
              have HYES : Hid (l[j] = s → R = 5) := Lib.hid fun h => by rw [HR.out, if_pos (HEQ.out j hjl hjk h)]
              have HNO : Hid (¬ l[j] = s → ∀ x ∈ l.take (j + 1), x ≠ s) := Lib.hid fun h x hx => by
                rw [List.take_succ_eq_append_getElem hjl, List.mem_append] at hx
                rcases hx with hx | hx
                · exact hno x hx
                · simp at hx; rw [hx]; exact h
              generalize l[j] = y at j0 HYES HNO
              clear hno hB
              by_cases hys : y = s
              · subst hys
                have HR5 := Lib.hid (HYES.out rfl)
                clear HYES HNO
                go_wp2_with fail
                go_region
                go_wp2_with fail
                go_ret
                exact ⟨ret_int (by rw [HR5.out]; rfl), Below.drew HB3.out⟩
              · have HX := Lib.hid (HNO.out hys)
                have t2 := str_ne hys
                clear HYES HNO
                go_wp2_with fail
                go_region
                go_wp2_with fail
                go_roundw
                case rel => exact ⟨j + 1, by omega, by go_num, HX.out, Below.drew HB3.out, KK.out⟩
                case measure => simp [intOf]; omega
            · have t1 : decide ((j : Int) < (k : Int)) = false := decide_eq_false (by omega)
              have e : j = k := by omega
              have HB3 := Lib.hid hB
              have HX : Hid (R = nzD (nameAt l) (k + 1) (l.length - (k + 1))) := Lib.hid (by
                rw [HR.out, if_neg]
                rw [e] at hno
                intro h
                obtain ⟨x, hx, h2⟩ := List.any_eq_true.1 h
                exact hno x hx (of_decide_eq_true h2))
              clear hno hB kk HR HEQ e
              go_wp2_with fail
              go_roundw
              case rel => exact ⟨k + 1, by omega, by go_num, HX.out, HB3.out⟩
              case measure => simp [intOf]; omega
      · have HR : Hid (R = 0) := Lib.hid (by rw [hR]; exact nzD_end (by omega))
        have HB := Lib.hid hB
        clear hR hB
        go_wp2_with fail
        go_ret
        exact ⟨ret_int (by rw [HR.out]; rfl), HB.out⟩

end Go.Proofs.Ytgpcaofikmdpjaa
