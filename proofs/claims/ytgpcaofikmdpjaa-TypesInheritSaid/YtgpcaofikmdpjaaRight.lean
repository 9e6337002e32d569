/-
  Contracts of the reference's text, Right, IsName, Number.
-/
import Derived.Test.YtgpcaofikmdpjaaOne2
namespace Go.Proofs.Ytgpcaofikmdpjaa
open Go.RowKit

theorem refText_any (k : Int) (s : ByteArray) (l : Int) (hs : s.size ≤ 1000000) (w : World) :
    Calls Try.prog 78 #[.agg #[.int .i64 k, .string s, .int .i64 l]] w fun e w' =>
      e = .returned (.string ⟨(quoteS k s.data.toList).toArray⟩) ∧ Below w.heap.size w w' := by
  by_cases hk : k = 3
  · have t : (k == 3) = true := by simpa using hk
    have H := Lib.hid (show quoteS k s.data.toList = 34 :: (s.data.toList ++ [34]) by unfold quoteS; rw [if_pos hk])
    clear hk
    go_enter Try.func78, Try.ntmps78
    go_wp2
    go_ret
    exact ⟨ret_str (by rw [H.out]; simp), (Below.refl _ _).alloc (Nat.le_refl _) _⟩
  · have t : (k == 3) = false := by simpa using hk
    have H := Lib.hid (show quoteS k s.data.toList = s.data.toList by unfold quoteS; rw [if_neg hk])
    clear hk
    go_enter Try.func78, Try.ntmps78
    go_wp2
    go_ret
    exact ⟨ret_str (by rw [H.out]), (Below.refl _ _).alloc (Nat.le_refl _) _⟩

/-- the reference's Right: the token with its quotes is one token of its kind -/
theorem right_quote (k : Int) (t : List UInt8) : rightS k t = (decide (quoteS k t ≠ []) && ((scanS (quoteS k t)).2.2 == 0 && (scanS (quoteS k t)).2.1 == (quoteS k t).length && ((scanS (quoteS k t)).1 : Int) == k)) := by
  rw [Bool.eq_iff_iff]
  constructor
  · intro h
    obtain ⟨h1, h2, h3, h4⟩ := scan_right (rest := []) h (by intro c hc; simp at hc)
    rw [List.append_nil] at h1
    have hne : quoteS k t ≠ [] := by
      intro e
      rw [e] at h1
      simp [scanS] at h1
    rw [h1]
    simp [hne]
    omega
  · intro h
    simp only [Bool.and_eq_true, decide_eq_true_eq, beq_iff_eq] at h
    obtain ⟨hne, ⟨h1, h2⟩, h3⟩ := h
    have hsc : scanS (quoteS k t) = ((scanS (quoteS k t)).1, (quoteS k t).length, 0) := by rw [← h2, ← h1]
    obtain ⟨h5, h6⟩ := right_scan hsc
    by_cases hk : k = 3
    · subst hk
      have hq : quoteS 3 t = 34 :: (t ++ [34]) := by simp [quoteS]
      have h3' : (scanS (quoteS 3 t)).1 = 3 := by omega
      rw [h3'] at h5
      have ht : textS 3 (quoteS 3 t).length (quoteS 3 t) = t := by rw [hq]; simp [textS]
      rw [ht] at h5
      exact h5
    · have hq : quoteS k t = t := by simp [quoteS, hk]
      rw [hq] at h1 h2 h3
      unfold rightS
      rw [if_neg hk]
      simp [h1, h2, h3]

set_option maxHeartbeats 2000000 in
theorem refRight_any (k : Int) (s : ByteArray) (l : Int) (hs : s.size ≤ 900000) (w : World) :
    Calls Try.prog 69 #[.agg #[.int .i64 k, .string s, .int .i64 l]] w fun e w' =>
      e = .returned (.bool (rightS k s.data.toList)) ∧ Below w.heap.size w w' := by
  have HR := Lib.hid (right_quote k s.data.toList)
  have hqs : (quoteS k s.data.toList).length ≤ 900002 := by
    have : s.data.toList.length = s.size := by simp
    unfold quoteS
    split <;> simp <;> omega
  have HT := Lib.hid (fun w => refText_any k s l (by omega) w)
  obtain ⟨q, hq⟩ : ∃ q : ByteArray, q = ⟨(quoteS k s.data.toList).toArray⟩ := ⟨_, rfl⟩
  have hql : q.data.toList = quoteS k s.data.toList := by rw [hq]
  have hqz : q.size ≤ 900002 := by
    have : q.data.toList.length = q.size := by simp
    rw [hql] at this
    omega
  rw [← hq] at HT
  rw [← hql] at HR
  clear hq hql hqs
  by_cases h0 : 0 < q.size
  · have he : q.toList.isEmpty = false := by
      rw [ByteArray.toList_eq]
      cases h : q.data.toList with
      | nil =>
        have h1 : q.data.toList.length = q.size := by simp
        rw [h] at h1
        simp only [List.length_nil] at h1
        omega
      | cons a b => rfl
    have hne : decide (q.data.toList ≠ []) = true := by
      simp only [decide_eq_true_eq]
      intro e
      rw [ByteArray.toList_eq, e] at he
      simp at he
    have hR2 := HR.out
    rw [hne, Bool.true_and] at hR2
    have hlen : q.data.toList.length = q.size := by simp
    rw [hlen] at hR2
    have HO := Lib.hid (fun w => one_any q 0 h0 (by omega) w)
    simp only [List.drop_zero, oneOf] at HO
    have HR2 := Lib.hid hR2
    clear hR2 HR hne hlen
    generalize textS (scanS q.data.toList).1 (scanS q.data.toList).2.1 q.data.toList = tx at HO
    generalize scanS q.data.toList = x at HO HR2
    obtain ⟨a, b, c⟩ := x
    simp only at HO HR2
    go_enter Try.func69, Try.ntmps69
    go_wp2_with fail
    have hbx : (w.alloc (.cells #[.int .i64 k, .string s, .int .i64 l] 96)).cell? ⟨w.heap.size, 0, none⟩ = some (.int .i64 k) := Lib.cell_of_heap (heap_alloc_new w _) 0
    have hbel : Below w.heap.size w (w.alloc (.cells #[.int .i64 k, .string s, .int .i64 l] 96)) := (Below.refl _ _).alloc (Nat.le_refl _) _
    have hsz : (w.alloc (.cells #[.int .i64 k, .string s, .int .i64 l] 96)).heap.size = w.heap.size + 1 := by simp
    generalize w.alloc (.cells #[.int .i64 k, .string s, .int .i64 l] 96) = W0 at hbx hbel hsz ⊢
    have HBX := Lib.hid hbx
    have HSZ := Lib.hid hsz
    have HBEL := Lib.hid hbel
    clear hbx hsz hbel
    refine (HT.out _).mono ?_
    rintro e w1 ⟨rfl, hb1⟩
    have HB1 := Lib.hid hb1
    clear hb1
    go_wp2_with fail
    refine (HO.out _).mono ?_
    rintro e w2 ⟨rfl, hb2⟩
    have hsz2 : w.heap.size < w2.heap.size := by have := hb2.size; have := HB1.out.size; have := HSZ.out; omega
    have hx2 : w2.cell? ⟨w.heap.size, 0, none⟩ = some (.int .i64 k) := by
      rw [hb2.cell (p := ⟨w.heap.size, 0, none⟩) (by have := HB1.out.size; have := HSZ.out; show w.heap.size < _; omega)]
      rw [HB1.out.cell (p := ⟨w.heap.size, 0, none⟩) (by have := HSZ.out; show w.heap.size < _; omega)]
      exact HBX.out
    have hx3 : ∀ o, (w2.alloc o).cell? ⟨w.heap.size, 0, none⟩ = some (.int .i64 k) := fun o => (World.cell?_alloc_lt w2 o ⟨w.heap.size, 0, none⟩ hsz2).trans hx2
    have HF := Lib.hid (show Below w.heap.size w w2 from (HBEL.out.trans (HB1.out.mono (by have := HSZ.out; omega))).trans (hb2.mono (by have := HB1.out.size; have := HSZ.out; omega)))
    have HSZ2 := Lib.hid hsz2
    clear hb2 hsz2 hx2
    cases h1 : ((c : Int) == 0) with
    | false =>
      have H2 := Lib.hid (show rightS k s.data.toList = false by
        rw [HR2.out, Bool.eq_false_iff]
        simp at h1 ⊢
        intro hc
        omega)
      go_wp2_with fail
      go_ret
      exact ⟨ret_bool (by rw [H2.out]), HF.out.alloc (by have := HSZ2.out; omega) _⟩
    | true =>
      cases h2 : ((b : Int) == (q.size : Int)) with
      | false =>
        have H2 := Lib.hid (show rightS k s.data.toList = false by
          rw [HR2.out, Bool.eq_false_iff]
          simp at h2 ⊢
          intro hc hb
          omega)
        go_wp2_with fail
        go_ret
        exact ⟨ret_bool (by rw [H2.out]), HF.out.alloc (by have := HSZ2.out; omega) _⟩
      | true =>
        have H2 := Lib.hid (show rightS k s.data.toList = ((a : Int) == k) by
          rw [HR2.out, Bool.eq_iff_iff]
          simp at h1 h2 ⊢
          omega)
        go_wp2_with fail
        go_ret
        exact ⟨ret_bool (by rw [H2.out]), HF.out.alloc (by have := HSZ2.out; omega) _⟩
  · obtain rfl := empty_of (s := q) (by omega)
    have H2 := Lib.hid (show rightS k s.data.toList = false by rw [HR.out]; rfl)
    clear h0 hqz
    go_enter Try.func69, Try.ntmps69
    go_wp2_with fail
    refine (HT.out _).mono ?_
    rintro e w1 ⟨rfl, hb1⟩
    go_wp2_with fail
    go_ret
    exact ⟨ret_bool (by rw [H2.out]), ((Below.refl _ _).alloc (Nat.le_refl _) _).trans (hb1.mono (by simp))⟩

theorem refIsName_any (s : ByteArray) (hs : s.size ≤ 900000) (w : World) :
    Calls Try.prog 55 #[.string s] w fun e w' => e = .returned (.bool (rightS 1 s.data.toList)) ∧ Below w.heap.size w w' := by
  have HC := Lib.hid (fun w => refRight_any 1 s 0 hs w)
  go_enter Try.func55, Try.ntmps55
  go_wp2_with fail
  refine (HC.out _).mono ?_
  rintro e w1 ⟨rfl, hb1⟩
  go_wp2_with fail
  go_ret
  exact ⟨rfl, hb1⟩

end Go.Proofs.Ytgpcaofikmdpjaa
