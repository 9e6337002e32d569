/-
  Types: attribute of the reference.
-/
import Derived.Test.YtgpcaofikmdpjaaTNames
namespace Go.Proofs.Ytgpcaofikmdpjaa
open Go.RowKit

theorem below_one' {w w1 : World} {o : Obj} (h : Below (w.alloc o).heap.size (w.alloc o) w1) : Below (w.heap.size + 1) (w.alloc o) w1 := by simpa using h
abbrev aval (a : Att) (A : Option Addr) (c : Nat) : Value := .agg #[.string a.nm, .int .i64 a.lo, .int .i64 a.hi, .slice A a.ns.length c]

set_option maxRecDepth 100000 in
set_option maxHeartbeats 2000000 in
theorem attribute_any (hn : NameC 55) (a : Att) (A : Option Addr) (c : Nat) (w : World) (hl : a.ns.length ≤ 1000) (hs : ∀ s ∈ a.ns, s.size ≤ 40) (hT : Strs w w.heap.size A a.ns) :
    Calls Try.prog 56 #[aval a A c] w fun e w' => e = .returned (.int .i64 (attE a)) ∧ Below w.heap.size w w' := by
  have HNA := Lib.hid (fun u hu => names_any hn a.ns A c u (by unfold maxLen; omega) hs hu)
  have HT := Lib.hid hT
  have HB0 := Lib.hid (fun (o : Obj) => (Below.refl w.heap.size w).alloc (Nat.le_refl _) o)
  have HE : Hid (attE a = if a.ns.length = 0 then (if inB a.lo (-1000000) 1000000 && inB a.hi a.lo 1000000 then 0 else 6) else if namesE a.ns ≠ 0 then namesE a.ns else if a.lo ≠ 0 ∨ a.hi ≠ (a.ns.length : Int) - 1 then 6 else 0) := Lib.hid rfl
  generalize attE a = R at HE ⊢
  obtain ⟨nm, lo, hi, ns⟩ := a
  dsimp only at HNA HT HE hl
  clear hT hn hs
  by_cases h0 : ns.length = 0
  · have HI1 := Lib.hid (fun u => in_any lo (-1000000) 1000000 u)
    have HI2 := Lib.hid (fun u => in_any hi lo 1000000 u)
    have HR : Hid (R = if inB lo (-1000000) 1000000 && inB hi lo 1000000 then 0 else 6) := Lib.hid (by rw [HE.out, if_pos h0])
    have t0 : ((ns.length : Int) == 0) = true := beq_iff_eq.2 (by omega)
    generalize inB lo (-1000000) 1000000 = b1 at HI1 HR
    generalize inB hi lo 1000000 = b2 at HI2 HR
    clear HE
    cases b1
    case false =>
      go_enter Try.func56, Try.ntmps56
      go_wp2_with fail
      refine (HI1.out _).mono ?_
      rintro e w1 ⟨rfl, rfl⟩
      go_wp2_with fail
      go_ret
      exact ⟨ret_int (by rw [HR.out]; rfl), HB0.out _⟩
    case true =>
      cases b2
      all_goals
        go_enter Try.func56, Try.ntmps56
        go_wp2_with fail
        refine (HI1.out _).mono ?_
        rintro e w1 ⟨rfl, rfl⟩
        go_wp2_with fail
        refine (HI2.out _).mono ?_
        rintro e w1 ⟨rfl, rfl⟩
        go_wp2_with fail
        go_ret
        exact ⟨ret_int (by rw [HR.out]; rfl), HB0.out _⟩
  · have HR : Hid (R = if namesE ns ≠ 0 then namesE ns else if lo ≠ 0 ∨ hi ≠ (ns.length : Int) - 1 then 6 else 0) := Lib.hid (by rw [HE.out, if_neg h0])
    have t0 : ((ns.length : Int) == 0) = false := beq_eq_false_iff_ne.2 (by omega)
    have hp : 1 ≤ ns.length := by omega
    generalize namesE ns = e1 at HNA HR
    clear HE h0
    by_cases he : e1 = 0
    · have HR2 : Hid (R = if lo ≠ 0 ∨ hi ≠ (ns.length : Int) - 1 then 6 else 0) := Lib.hid (by rw [HR.out, if_neg (fun h => h he)])
      subst he
      clear HR
      have hcase : lo ≠ 0 ∨ (lo = 0 ∧ hi ≠ (ns.length : Int) - 1) ∨ (lo = 0 ∧ hi = (ns.length : Int) - 1) := by omega
      rcases hcase with h1 | ⟨rfl, h2⟩ | ⟨rfl, rfl⟩
      · have HX := Lib.hid (show R = 6 by rw [HR2.out, if_pos (.inl h1)])
        have t1 : (lo != 0) = true := by simp [h1]
        clear HR2 h1
        go_enter Try.func56, Try.ntmps56
        go_wp2_with fail
        refine (HNA.out _ (Reads.up HT.out (HB0.out _))).mono ?_
        rintro e w1 ⟨rfl, hb1⟩
        have hb1' := below_one' hb1
        have k1 := (hb1'.cell (p := ⟨w.heap.size, 1, none⟩) (by simp)).trans (show _ = some (Value.int .i64 lo) from by simp)
        have k2 := (hb1'.cell (p := ⟨w.heap.size, 2, none⟩) (by simp)).trans (show _ = some (Value.int .i64 hi) from by simp)
        have k3 := (hb1'.cell (p := ⟨w.heap.size, 3, none⟩) (by simp)).trans (show _ = some (Value.slice A ns.length c) from by simp)
        have HB1 := Lib.hid ((HB0.out _).trans (hb1'.mono (by omega)))
        clear hb1 hb1'
        go_wp2_with fail
        go_ret
        exact ⟨ret_int (by rw [HX.out]; rfl), HB1.out⟩
      · have HX := Lib.hid (show R = 6 by rw [HR2.out, if_pos (.inr h2)])
        have t1 : (hi != (ns.length : Int) - 1) = true := by simp [h2]
        clear HR2 h2
        go_enter Try.func56, Try.ntmps56
        go_wp2_with fail
        refine (HNA.out _ (Reads.up HT.out (HB0.out _))).mono ?_
        rintro e w1 ⟨rfl, hb1⟩
        have hb1' := below_one' hb1
        have k1 := (hb1'.cell (p := ⟨w.heap.size, 1, none⟩) (by simp)).trans (show _ = some (Value.int .i64 0) from by simp)
        have k2 := (hb1'.cell (p := ⟨w.heap.size, 2, none⟩) (by simp)).trans (show _ = some (Value.int .i64 hi) from by simp)
        have k3 := (hb1'.cell (p := ⟨w.heap.size, 3, none⟩) (by simp)).trans (show _ = some (Value.slice A ns.length c) from by simp)
        have HB1 := Lib.hid ((HB0.out _).trans (hb1'.mono (by omega)))
        clear hb1 hb1'
        go_wp2_with fail
        go_ret
        exact ⟨ret_int (by rw [HX.out]; rfl), HB1.out⟩
      · have HX := Lib.hid (show R = 0 by rw [HR2.out, if_neg (by omega)])
        clear HR2
        go_enter Try.func56, Try.ntmps56
        go_wp2_with fail
        refine (HNA.out _ (Reads.up HT.out (HB0.out _))).mono ?_
        rintro e w1 ⟨rfl, hb1⟩
        have hb1' := below_one' hb1
        have k1 := (hb1'.cell (p := ⟨w.heap.size, 1, none⟩) (by simp)).trans (show _ = some (Value.int .i64 0) from by simp)
        have k2 := (hb1'.cell (p := ⟨w.heap.size, 2, none⟩) (by simp)).trans (show _ = some (Value.int .i64 ((ns.length : Int) - 1)) from by simp)
        have k3 := (hb1'.cell (p := ⟨w.heap.size, 3, none⟩) (by simp)).trans (show _ = some (Value.slice A ns.length c) from by simp)
        have HB1 := Lib.hid ((HB0.out _).trans (hb1'.mono (by omega)))
        clear hb1 hb1'
        go_wp2_with fail
        go_ret
        exact ⟨ret_int (by rw [HX.out]; rfl), HB1.out⟩
    · have HX := Lib.hid (show R = e1 by rw [HR.out, if_pos he])
      have t1 : ((e1 : Int) != 0) = true := by simp; omega
      clear HR he
      go_enter Try.func56, Try.ntmps56
      go_wp2_with fail
      refine (HNA.out _ (Reads.up HT.out (HB0.out _))).mono ?_
      rintro e w1 ⟨rfl, hb1⟩
      have HB1 := Lib.hid ((HB0.out _).trans ((below_one' hb1).mono (by omega)))
      clear hb1
      go_wp2_with fail
      go_ret
      exact ⟨ret_int (by rw [HX.out]), HB1.out⟩

end Go.Proofs.Ytgpcaofikmdpjaa
