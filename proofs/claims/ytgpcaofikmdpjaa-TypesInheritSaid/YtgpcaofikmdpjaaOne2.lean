/-
  The contract of the reference's one at a sign; one at every place.
-/
import Derived.Test.YtgpcaofikmdpjaaOne
import Derived.Lib.Builder
namespace Go.Proofs.Ytgpcaofikmdpjaa
open Go.RowKit

/-- the world in which the loop over the signs runs -/
def SignW (w W : World) : Prop :=
  (∀ (k : Nat) (h : k < 25), W.cell? ⟨w.heap.size + 1, k, none⟩ = some (.string ⟨(signL[k]'h).toArray⟩)) ∧
  W.heap[w.heap.size]? = some (.cells #[.int .i64 0, .string ⟨#[]⟩, .int .i64 0] 96 (0, 0)) ∧ Below w.heap.size w W

theorem signW (w : World) : SignW w ((w.alloc (.cells #[.int .i64 0, .string ⟨#[]⟩, .int .i64 0] 96)).alloc (.cells signCells 9)) := by
  have hn : ((w.alloc (.cells #[.int .i64 0, .string ⟨#[]⟩, .int .i64 0] 96)).alloc (.cells signCells 9)).heap[w.heap.size + 1]? = some (.cells signCells 9 (0, 0)) := by
    have := heap_alloc_new (w.alloc (.cells #[.int .i64 0, .string ⟨#[]⟩, .int .i64 0] 96)) (.cells signCells 9)
    simpa using this
  refine ⟨fun k h => ?_, ?_, ((Below.refl _ _).alloc (Nat.le_refl _) _).alloc (by simp) _⟩
  · rw [Lib.cell_of_heap hn]
    unfold signCells
    rw [List.getElem?_toArray, List.getElem?_map, List.getElem?_eq_getElem (show k < signL.length from h)]
    rfl
  · rw [Lib.alloc_old _ _ _ (by simp)]
    exact heap_alloc_new w _

theorem below_draws {B : Nat} {a w : World} (h : Below B a w) (n : Nat) : Below B a (w.drewN n) := ⟨h.os, h.tape, h.output, h.size, h.block⟩

theorem signAt_len {r : List UInt8} {k : Nat} (h : signAt r k) (hk : k < 25) : (signL[k]'hk).length ≤ r.length := by
  obtain ⟨h1, h2⟩ := h
  have h3 := congrArg List.length h2
  rw [List.length_take] at h3
  have : (signL[k]'hk).length = (signL[k]'h1).length := rfl
  omega

set_option maxHeartbeats 4000000 in
theorem one_sign (s : ByteArray) (a : Nat) (ha : a < s.size) (hs : s.size ≤ 1000000) (hl : isLet s[a] = false) (hdg : isDig s[a] = false) (hq : ¬ s[a].toNat = 34) (w : World) :
    Calls Try.prog 79 #[.string s, .int .i64 a] w fun e w' => e = oneOf (s.data.toList.drop a) ∧ Below w.heap.size w w' := by
  have hd := drop_cons s a ha
  have hsc : scanS (s.data.toList.drop a) = signS (s.data.toList.drop a) := by rw [hd]; simp [scanS, hl, hdg, hq]
  have hne : s.data.toList.drop a ≠ [] := by rw [hd]; simp
  have t34 : ((s[a].toNat : Int) == 34) = false := by simp; omega
  have HL := Lib.hid hl
  have HD := Lib.hid hdg
  have HSC := Lib.hid hsc
  have HNE := Lib.hid hne
  clear hl hdg hsc hd hq hne
  go_enter Try.func79, Try.ntmps79
  go_wp2_with fail
  refine (letter_any _ _).mono ?_
  rintro e w' ⟨rfl, rfl⟩
  rw [HL.out]
  go_wp2_with fail
  refine (digit_any _ _).mono ?_
  rintro e w' ⟨rfl, rfl⟩
  rw [HD.out]
  go_wp2_with fail
  refine (refSigns_any _).mono ?_
  rintro e w' ⟨rfl, rfl⟩
  have hW := signW w
  have hz : (w.alloc (.cells #[.int .i64 0, .string ⟨#[]⟩, .int .i64 0] 96)).heap.size = w.heap.size + 1 := by simp
  rw [hz]
  generalize (w.alloc (.cells #[.int .i64 0, .string ⟨#[]⟩, .int .i64 0] 96)).alloc (.cells signCells 9) = W1 at hW ⊢
  have HW := Lib.hid hW
  clear hW hz
  go_wp2_with fail
  go_loopw [13] (fun i wr => ∃ k q : Nat, k ≤ 25 ∧ i = .int .i64 k ∧ wr = W1.drewN q ∧ ∀ j, j < k → ¬ signAt (s.data.toList.drop a) j) (fun i _ => 25 - (intOf i).toNat)
  case atStart => exact ⟨0, 0, by omega, rfl, rfl, fun j hj => by omega⟩
  case round =>
    obtain ⟨k, q, hk, rfl, rfl, hno⟩ := hrel
    have HNO := Lib.hid hno
    clear hno
    by_cases hlt : k < 25
    · obtain ⟨hc, hres, hbel⟩ := HW.out
      have hck := hc k hlt
      have hln := sign_len ⟨k, hlt⟩
      simp only at hln
      have hk0 : (0 : Int) ≤ (k : Int) := by omega
      have hk1 : (k : Int) < 25 := by omega
      have hk2 : ((k : Int)).toNat = k := by omega
      obtain ⟨sk, hsk⟩ : ∃ sk : ByteArray, sk = ⟨(signL[k]'hlt).toArray⟩ := ⟨_, rfl⟩
      rw [← hsk] at hck
      have hz1 : sk.size = (signL[k]'hlt).length := by rw [hsk]; rfl
      have hz2 : sk.toList = signL[k]'hlt := by rw [ByteArray.toList_eq, hsk]
      have HZ1 := Lib.hid hz1
      have HZ2 := Lib.hid hz2
      have hz3 : sk.size ≤ 2 := by omega
      have hz4 : 1 ≤ sk.size := by omega
      have HRES := Lib.hid hres
      have HSK := Lib.hid hsk
      clear hc hres hz1 hz2 hln hsk
      have w1 : IntKind.i64.wrap ((a : Int) + (sk.size : Int)) = (a : Int) + (sk.size : Int) := IntWalk.i64_in _ (by omega)
      have w2 : (0 : Int) ≤ (a : Int) + (sk.size : Int) := by omega
      have w3 : ((a : Int) + (sk.size : Int)).toNat = a + sk.size := by omega
      by_cases hfit : a + sk.size ≤ s.size
      · have t1 : decide ((a : Int) + (sk.size : Int) ≤ (s.size : Int)) = true := by simp; omega
        cases he : ((s.extract a (a + sk.size)).toList == sk.toList) with
        | true =>
          go_wp2_with fail
          go_quiet (fail)
          go_wp2_with fail
          have hhit : signS (s.data.toList.drop a) = (4, sk.size, 0) := by
            have h2 : (s.extract a (a + sk.size)).toList = sk.toList := by simpa using he
            rw [ByteArray.toList_eq, ext_take, HZ1.out, HZ2.out] at h2
            rw [HZ1.out]
            exact sign_hit hlt h2 HNO.out
          have H := Lib.hid (oneOf_ok (t := sk) (HSC.out.trans hhit) (by
            have h2 : (s.extract a (a + sk.size)).toList = sk.toList := by simpa using he
            rw [ByteArray.toList_eq, ext_take, ByteArray.toList_eq] at h2
            rw [← h2]; rfl))
          have r0 : W1.cell? ⟨w.heap.size, 0, none⟩ = some (.int .i64 0) := by rw [Lib.cell_of_heap HRES.out]; rfl
          have r1 : W1.cell? ⟨w.heap.size, 1, none⟩ = some (.string ⟨#[]⟩) := by rw [Lib.cell_of_heap HRES.out]; rfl
          have r2 : W1.cell? ⟨w.heap.size, 2, none⟩ = some (.int .i64 0) := by rw [Lib.cell_of_heap HRES.out]; rfl
          have f0 : W1.frozen? ⟨w.heap.size, 0, none⟩ = false := Lib.frozen_of_heap HRES.out 0
          have f1 : W1.frozen? ⟨w.heap.size, 1, none⟩ = false := Lib.frozen_of_heap HRES.out 1
          have f2 : W1.frozen? ⟨w.heap.size, 2, none⟩ = false := Lib.frozen_of_heap HRES.out 2
          clear hhit he
          clear HZ1 HZ2 HSK HRES HNO hz3 hz4 w1 w2 w3 t1
          go_region
          go_wp2_with fail
          refine bodyPost_ret (v := .tuple #[.agg #[.int .i64 4, .string sk, .int .i64 0], .int .i64 sk.size, .int .i64 0]) (by simp [results, Try.results79, go_sem, r0, r1, r2]) rfl ⟨H.out.symm, ?_⟩
          exact (((below_draws hbel (q + nq + 1)).setCell (p := ⟨w.heap.size, 0, none⟩) (Nat.le_refl _) _).setCell (p := ⟨w.heap.size, 1, none⟩) (Nat.le_refl _) _).setCell (p := ⟨w.heap.size, 2, none⟩) (Nat.le_refl _) _
        | false =>
          have hno2 : ¬ signAt (s.data.toList.drop a) k := by
            rintro ⟨h1, h2⟩
            have : (s.extract a (a + sk.size)).toList = sk.toList := by
              rw [ByteArray.toList_eq, ext_take, HZ1.out, HZ2.out]; exact h2
            rw [this] at he
            simp at he
          have HNO2 := Lib.hid hno2
          clear hno2
          go_wp2_with fail
          go_quiet (fail)
          go_wp2_with fail
          go_roundw
          case rel => exact ⟨k + 1, _, by omega, by go_num, rfl, fun j hj => by
            by_cases h : j = k
            · subst h; exact HNO2.out
            · exact HNO.out j (by omega)⟩
          case measure => simp [intOf]; omega
      · have t1 : decide ((a : Int) + (sk.size : Int) ≤ (s.size : Int)) = false := by simp; omega
        have hno2 : ¬ signAt (s.data.toList.drop a) k := by
          intro h1
          have h3 := signAt_len h1 hlt
          have h4 : (s.data.toList.drop a).length = s.size - a := by simp
          have h5 := HZ1.out
          omega
        have HNO2 := Lib.hid hno2
        clear hno2
        go_wp2_with fail
        go_quiet (fail)
        go_wp2_with fail
        go_roundw
        case rel => exact ⟨k + 1, _, by omega, by go_num, rfl, fun j hj => by
            by_cases h : j = k
            · subst h; exact HNO2.out
            · exact HNO.out j (by omega)⟩
        case measure => simp [intOf]; omega
    · have hk25 : k = 25 := by omega
      have H := Lib.hid (oneOf_err (show scanS (s.data.toList.drop a) = (0, 0, 2) by rw [HSC.out]; exact sign_miss HNE.out (fun j hj => HNO.out j (by omega))))
      obtain ⟨hc, hres, hbel⟩ := HW.out
      have r0 : W1.cell? ⟨w.heap.size, 0, none⟩ = some (.int .i64 0) := by rw [Lib.cell_of_heap hres]; rfl
      have r1 : W1.cell? ⟨w.heap.size, 1, none⟩ = some (.string ⟨#[]⟩) := by rw [Lib.cell_of_heap hres]; rfl
      have r2 : W1.cell? ⟨w.heap.size, 2, none⟩ = some (.int .i64 0) := by rw [Lib.cell_of_heap hres]; rfl
      have f0 : W1.frozen? ⟨w.heap.size, 0, none⟩ = false := Lib.frozen_of_heap hres 0
      have f1 : W1.frozen? ⟨w.heap.size, 1, none⟩ = false := Lib.frozen_of_heap hres 1
      have f2 : W1.frozen? ⟨w.heap.size, 2, none⟩ = false := Lib.frozen_of_heap hres 2
      clear hc hres hk25
      go_wp2_with fail
      refine bodyPost_ret (v := .tuple #[.agg #[.int .i64 0, .string ⟨#[]⟩, .int .i64 0], .int .i64 0, .int .i64 2]) (by simp [results, Try.results79, go_sem, r0, r1, r2]) rfl ⟨H.out.symm, ?_⟩
      exact (((below_draws hbel q).setCell (p := ⟨w.heap.size, 0, none⟩) (Nat.le_refl _) _).setCell (p := ⟨w.heap.size, 1, none⟩) (Nat.le_refl _) _).setCell (p := ⟨w.heap.size, 2, none⟩) (Nat.le_refl _) _

theorem one_any (s : ByteArray) (a : Nat) (ha : a < s.size) (hs : s.size ≤ 1000000) (w : World) :
    Calls Try.prog 79 #[.string s, .int .i64 a] w fun e w' => e = oneOf (s.data.toList.drop a) ∧ Below w.heap.size w w' := by
  cases hl : isLet s[a] with
  | true => exact one_letter s a ha hs hl w
  | false =>
    cases hd : isDig s[a] with
    | true => exact one_digit s a ha hs hd w
    | false =>
      by_cases hq : s[a].toNat = 34
      · exact one_quote s a ha hs hq w
      · exact one_sign s a ha hs hl hd hq w

end Go.Proofs.Ytgpcaofikmdpjaa
