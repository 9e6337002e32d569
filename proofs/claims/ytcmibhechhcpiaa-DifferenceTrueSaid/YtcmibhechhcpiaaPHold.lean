/-
  Difference, the program: sign, Add64, evaluate.
  Difference, the program: evaluate.
  Difference, the program: less, Holds.
-/
import Derived.Test.YtcmibhechhcpiaaDHold
import Derived.Laws.Externs
import Derived.Deep.RegionHeld3
namespace Go.Proofs.Ytcmibhechhcpiaa
open Go.RowKit

def hiT (s : Int) : Int := if s < 0 then -1 else 0
def loT (s : Int) : Int := s % 18446744073709551616

theorem sign_any (i : Int) (w : World) : Calls Try.prog 64 #[.int .i64 i] w fun e w' => e = .returned (.int .i64 (hiT i)) ∧ w' = w := by
  by_cases h : i < 0
  · have H := Lib.hid (show hiT i = -1 from if_pos h)
    have t1 : decide (i < 0) = true := decide_eq_true h
    go_enter Try.func64, Try.ntmps64
    go_wp2
    go_ret
    exact ⟨ret_int H.out.symm, rfl⟩
  · have H := Lib.hid (show hiT i = 0 from if_neg h)
    have t1 : decide (i < 0) = false := decide_eq_false h
    go_enter Try.func64, Try.ntmps64
    go_wp2
    go_ret
    exact ⟨ret_int H.out.symm, rfl⟩

theorem add64_run (x y : Int) (hx : 0 ≤ x) (hy : 0 ≤ y) (w : World) : (callFunc 63 #[.int .u64 x, .int .u64 y, .int .u64 0]).run Try.prog w =
    .ok (.value (.tuple #[.int .u64 ((x + y) % 18446744073709551616), .int .u64 ((x + y) / 18446744073709551616)])) w := by
  rw [run_callFunc_extern Try.func63 (by kernel_rfl) (by kernel_rfl) (by kernel_rfl) (e := add64Entry) (by kernel_rfl), run_add64 x y 0 hx hy (by omega) (by omega)]
  simp only [Result.andThen, Int.add_zero]

end Go.Proofs.Ytcmibhechhcpiaa

namespace Go.Proofs.Ytcmibhechhcpiaa
open Go.RowKit

abbrev totV (s : Int) : Value := .agg #[.int .i64 (hiT s), .int .u64 (loT s)]
theorem hiT_b (i : Int) : -1 ≤ hiT i ∧ hiT i ≤ 0 := by unfold hiT; split <;> omega
/-- the two halves of a sum -/
theorem halves {y a : Int} (ha : Fit a) (hy : Fit y) : ∃ lo cy : Int, (0 ≤ cy ∧ cy ≤ 1) ∧ lo = loT (y + a) ∧ hiT y + hiT a + cy = hiT (y + a) ∧
    ∀ w, (callFunc 63 #[.int .u64 (IntKind.u64.wrap y), .int .u64 (IntKind.u64.wrap a), .int .u64 0]).run Try.prog w = .ok (.value (.tuple #[.int .u64 lo, .int .u64 cy])) w := by
  obtain ⟨a1, a2⟩ := ha
  obtain ⟨y1, y2⟩ := hy
  have e1 : IntKind.u64.wrap y = y % 18446744073709551616 := by rw [IntKind.wrap_u64]
  have e2 : IntKind.u64.wrap a = a % 18446744073709551616 := by rw [IntKind.wrap_u64]
  refine ⟨_, _, ?_, ?_, ?_, fun w => add64_run (IntKind.u64.wrap y) (IntKind.u64.wrap a) (by rw [e1]; omega) (by rw [e2]; omega) w⟩
  · rw [e1, e2]; omega
  · rw [e1, e2]; unfold loT; omega
  · rw [e1, e2]; unfold hiT
    by_cases p1 : y < 0 <;> by_cases p2 : a < 0 <;> by_cases p3 : y + a < 0 <;> simp only [p1, p2, p3, if_true, if_false] <;> omega

set_option maxRecDepth 100000 in
set_option maxHeartbeats 2000000 in
theorem eval_at (v a y : Int) (n c : Nat) (A : Option Addr) (w : World) (ha : Fit a) (hy : Fit y) (h : v = -1 ∧ y = 0 ∨ 0 ≤ v ∧ v < (n : Int) ∧ ∃ b off, A = some ⟨b, off, none⟩ ∧ b < w.heap.size ∧ w.cell? ⟨b, off + v.toNat, none⟩ = some (.int .i64 y)) :
    Calls Try.prog 47 #[.agg #[.int .i64 v, .int .i64 a], .slice A n c] w fun e w' => e = .returned (.tuple #[totV (y + a), .bool true]) ∧ Below w.heap.size w w' := by
  obtain ⟨lo, cy, ⟨hc0, hc1⟩, hlo, hhi, hrun⟩ := halves ha hy
  have HS1 := Lib.hid (fun u => sign_any y u)
  have HS2 := Lib.hid (fun u => sign_any a u)
  have hp := hiT_b y
  have hq := hiT_b a
  have HV : totV (y + a) = .agg #[.int .i64 (hiT y + hiT a + cy), .int .u64 lo] := by rw [hlo, hhi]
  rw [HV]
  clear HV hlo hhi ha hy
  have HRUN := Lib.hid hrun
  clear hrun
  rcases h with ⟨rfl, rfl⟩ | ⟨h0, h1, b, off, rfl, hb, hc⟩
  · have t2 : decide ((n : Int) ≤ -1) = false := decide_eq_false (by omega)
    have hrun : ∀ u, (callFunc 63 #[.int .u64 0, .int .u64 (IntKind.u64.wrap a), .int .u64 0]).run Try.prog u = .ok (.value (.tuple #[.int .u64 lo, .int .u64 cy])) u := HRUN.out
    generalize hiT 0 = p at HS1 hp ⊢
    generalize hiT a = q at HS2 hq ⊢
    obtain ⟨p1, p2⟩ := hp
    obtain ⟨q1, q2⟩ := hq
    have HW1 : IntKind.i64.wrap (p + q) = p + q := by rw [IntKind.wrap_i64]; omega
    have HW2 : IntKind.i64.wrap (p + q + cy) = p + q + cy := by rw [IntKind.wrap_i64]; omega
    have HW3 : IntKind.i64.wrap cy = cy := by rw [IntKind.wrap_i64]; omega
    go_enter Try.func47, Try.ntmps47
    go_wp2_with fail
    go_region_held3 (fun w' => w'.cell? ⟨w.heap.size, 1, none⟩ = some (.int .i64 a)) (go_keep)
      (first | (go_at_call 64; with_reducible refine (HS1.out _).mono ?_; rintro e w' ⟨rfl, rfl⟩) | (go_at_call 64; with_reducible refine (HS2.out _).mono ?_; rintro e w' ⟨rfl, rfl⟩))
    go_wp2_with fail
    refine bodyPost_ret (v := .tuple #[.agg #[.int .i64 (p + q + cy), .int .u64 lo], .bool true]) (by simp [results, Try.results47, go_sem]) rfl ?_
    exact ⟨rfl, Below.drew (((Below.refl _ _).alloc (Nat.le_refl _) _).alloc (by simp) _)⟩
  · obtain ⟨k, rfl⟩ : ∃ k : Nat, v = k := ⟨v.toNat, by omega⟩
    rw [Int.toNat_natCast] at hc
    have hrun := HRUN.out
    have t1 : decide ((k : Int) < -1) = false := decide_eq_false (by omega)
    have t2 : decide ((n : Int) ≤ (k : Int)) = false := decide_eq_false (by omega)
    have t2' : decide (n ≤ k) = false := decide_eq_false (by omega)
    have t3 : decide ((0 : Int) ≤ (k : Int)) = true := decide_eq_true (by omega)
    have k2 : ((k : Int)).toNat = k := by omega
    have hc' := (((Below.refl w.heap.size w).alloc (Nat.le_refl _) (.cells #[.int .i64 k, .int .i64 a] 30 (0, 0))).alloc (by simp) (.cells #[.int .i64 0, .int .u64 0] 79 (0, 0))).cell (p := ⟨b, off + k, none⟩) hb |>.trans hc
    generalize hiT y = p at HS1 hp ⊢
    generalize hiT a = q at HS2 hq ⊢
    obtain ⟨p1, p2⟩ := hp
    obtain ⟨q1, q2⟩ := hq
    have HW1 : IntKind.i64.wrap (p + q) = p + q := by rw [IntKind.wrap_i64]; omega
    have HW2 : IntKind.i64.wrap (p + q + cy) = p + q + cy := by rw [IntKind.wrap_i64]; omega
    have HW3 : IntKind.i64.wrap cy = cy := by rw [IntKind.wrap_i64]; omega
    clear hc
    go_enter Try.func47, Try.ntmps47
    go_wp2_with fail
    go_region_held3 (fun w' => w'.cell? ⟨w.heap.size, 1, none⟩ = some (.int .i64 a)) (go_keep)
      (first | (go_at_call 64; with_reducible refine (HS1.out _).mono ?_; rintro e w' ⟨rfl, rfl⟩) | (go_at_call 64; with_reducible refine (HS2.out _).mono ?_; rintro e w' ⟨rfl, rfl⟩))
    go_wp2_with fail
    refine bodyPost_ret (v := .tuple #[.agg #[.int .i64 (p + q + cy), .int .u64 lo], .bool true]) (by simp [results, Try.results47, go_sem]) rfl ?_
    exact ⟨rfl, Below.drew (((Below.refl _ _).alloc (Nat.le_refl _) _).alloc (by simp) _)⟩

set_option maxHeartbeats 1000000 in
theorem eval_no (v a : Int) (n c : Nat) (A : Option Addr) (w : World) (h : v < -1 ∨ (n : Int) ≤ v) :
    Calls Try.prog 47 #[.agg #[.int .i64 v, .int .i64 a], .slice A n c] w fun e w' => e = .returned (.tuple #[.agg #[.int .i64 0, .int .u64 0], .bool false]) ∧ Below w.heap.size w w' := by
  by_cases h1 : v < -1
  · have t1 : decide (v < -1) = true := decide_eq_true h1
    clear h
    go_enter Try.func47, Try.ntmps47
    go_wp2_with fail
    refine bodyPost_ret (v := .tuple #[.agg #[.int .i64 0, .int .u64 0], .bool false]) (by simp [results, Try.results47, go_sem]) rfl ?_
    exact ⟨rfl, ((Below.refl _ _).alloc (Nat.le_refl _) _).alloc (by simp) _⟩
  · have t1 : decide (v < -1) = false := decide_eq_false h1
    have t2 : decide ((n : Int) ≤ v) = true := decide_eq_true (by omega)
    clear h
    go_enter Try.func47, Try.ntmps47
    go_wp2_with fail
    refine bodyPost_ret (v := .tuple #[.agg #[.int .i64 0, .int .u64 0], .bool false]) (by simp [results, Try.results47, go_sem]) rfl ?_
    exact ⟨rfl, ((Below.refl _ _).alloc (Nat.le_refl _) _).alloc (by simp) _⟩

def evV (o : Option Int) : Value := match o with | none => .agg #[.int .i64 0, .int .u64 0] | some s => totV s
theorem eval_any (v a : Int) (vs : List Int) (A : Option Addr) (B c : Nat) (w : World) (ha : Fit a) (hv : ∀ y ∈ vs, Fit y) (hB : B ≤ w.heap.size) (hT : Ints w B A vs) :
    Calls Try.prog 47 #[.agg #[.int .i64 v, .int .i64 a], .slice A vs.length c] w fun e w' => e = .returned (.tuple #[evV (valS v a vs), .bool (valS v a vs).isSome]) ∧ Below w.heap.size w w' := by
  by_cases h1 : v = -1
  · have H : valS v a vs = some a := by unfold valS; rw [if_pos h1]
    rw [H]
    have := eval_at v a 0 vs.length c A w ha (by unfold Fit; omega) (.inl ⟨h1, rfl⟩)
    rwa [Int.zero_add] at this
  · by_cases h2 : v < 0 ∨ (vs.length : Int) ≤ v
    · have H : valS v a vs = none := by unfold valS; rw [if_neg h1, if_pos h2]
      rw [H]
      exact eval_no v a vs.length c A w (by omega)
    · have H : valS v a vs = some (vs.getD v.toNat 0 + a) := by unfold valS; rw [if_neg h1, if_neg h2]
      rw [H]
      have hk : v.toNat < vs.length := by omega
      obtain ⟨b, off, rfl, hb, hc⟩ := Ints.cells hT hk
      exact eval_at v a _ vs.length c _ w ha (hv _ (by rw [List.getD_eq_getElem?_getD, List.getElem?_eq_getElem hk]; simp)) (.inr ⟨by omega, by omega, b, off, rfl, by omega, hc _ hk⟩)

end Go.Proofs.Ytcmibhechhcpiaa

namespace Go.Proofs.Ytcmibhechhcpiaa
open Go.RowKit

set_option maxHeartbeats 1000000 in
theorem less_any (a1 a2 b1 b2 : Int) (w : World) :
    Calls Try.prog 48 #[.agg #[.int .i64 a1, .int .u64 a2], .agg #[.int .i64 b1, .int .u64 b2]] w fun e w' => e = .returned (.bool (decide (a1 < b1 ∨ (a1 = b1 ∧ a2 < b2)))) ∧ Below w.heap.size w w' := by
  by_cases h1 : a1 < b1
  · have H := Lib.hid (show decide (a1 < b1 ∨ (a1 = b1 ∧ a2 < b2)) = true from decide_eq_true (.inl h1))
    have t1 : decide (a1 < b1) = true := decide_eq_true h1
    go_enter Try.func48, Try.ntmps48
    go_wp2_with fail
    go_ret
    exact ⟨ret_bool H.out.symm, ((Below.refl _ _).alloc (Nat.le_refl _) _).alloc (by simp) _⟩
  · have t1 : decide (a1 < b1) = false := decide_eq_false h1
    by_cases h2 : a1 = b1
    · subst h2
      by_cases h3 : a2 < b2
      · have H := Lib.hid (show decide (a1 < a1 ∨ (a1 = a1 ∧ a2 < b2)) = true from decide_eq_true (.inr ⟨rfl, h3⟩))
        have t3 : decide (a2 < b2) = true := decide_eq_true h3
        generalize decide (a1 < a1 ∨ (a1 = a1 ∧ a2 < b2)) = R at H ⊢
        go_enter Try.func48, Try.ntmps48
        go_wp2_with fail
        go_ret
        exact ⟨ret_bool H.out.symm, ((Below.refl _ _).alloc (Nat.le_refl _) _).alloc (by simp) _⟩
      · have H := Lib.hid (show decide (a1 < a1 ∨ (a1 = a1 ∧ a2 < b2)) = false from decide_eq_false (by omega))
        have t3 : decide (a2 < b2) = false := decide_eq_false h3
        generalize decide (a1 < a1 ∨ (a1 = a1 ∧ a2 < b2)) = R at H ⊢
        go_enter Try.func48, Try.ntmps48
        go_wp2_with fail
        go_ret
        exact ⟨ret_bool H.out.symm, ((Below.refl _ _).alloc (Nat.le_refl _) _).alloc (by simp) _⟩
    · have H := Lib.hid (show decide (a1 < b1 ∨ (a1 = b1 ∧ a2 < b2)) = false from decide_eq_false (by omega))
      have t2 : (a1 == b1) = false := by simp [h2]
      generalize decide (a1 < b1 ∨ (a1 = b1 ∧ a2 < b2)) = R at H ⊢
      clear h2
      go_enter Try.func48, Try.ntmps48
      go_wp2_with fail
      go_ret
      exact ⟨ret_bool H.out.symm, ((Below.refl _ _).alloc (Nat.le_refl _) _).alloc (by simp) _⟩

/-- a sum that fits -/
def Wide (s : Int) : Prop := -8796093022208 ≤ s ∧ s ≤ 8796093022208
theorem hl_or {s : Int} (hs : Wide s) : (s < 0 ∧ hiT s = -1 ∧ loT s = s + 18446744073709551616) ∨ (0 ≤ s ∧ hiT s = 0 ∧ loT s = s) := by
  obtain ⟨h1, h2⟩ := hs
  by_cases h : s < 0
  · exact .inl ⟨h, if_pos h, by unfold loT; omega⟩
  · exact .inr ⟨by omega, if_neg h, by unfold loT; omega⟩
theorem less_iff {s t : Int} (hs : Wide s) (ht : Wide t) : (hiT s < hiT t ∨ (hiT s = hiT t ∧ loT s < loT t)) ↔ s < t := by
  rcases hl_or hs with ⟨h1, h2, h3⟩ | ⟨h1, h2, h3⟩ <;> rcases hl_or ht with ⟨k1, k2, k3⟩ | ⟨k1, k2, k3⟩ <;> rw [h2, h3, k2, k3] <;> constructor <;> intro h <;> omega
theorem tot_inj {s t : Int} (hs : Wide s) (ht : Wide t) (h1 : hiT s = hiT t) (h2 : loT s = loT t) : s = t := by
  rcases hl_or hs with ⟨h3, h4, h5⟩ | ⟨h3, h4, h5⟩ <;> rcases hl_or ht with ⟨k1, k2, k3⟩ | ⟨k1, k2, k3⟩ <;> omega
theorem val_wide {v a s : Int} {vs : List Int} (ha : Fit a) (hv : ∀ y ∈ vs, Fit y) (h : valS v a vs = some s) : Wide s := by
  obtain ⟨h1, h2⟩ := ha
  unfold valS at h
  split at h
  · injection h with h
    unfold Wide
    omega
  · split at h
    · cases h
    · injection h with h
      have hk : v.toNat < vs.length := by omega
      obtain ⟨h3, h4⟩ := hv _ (show vs.getD v.toNat 0 ∈ vs by rw [List.getD_eq_getElem?_getD, List.getElem?_eq_getElem hk]; simp)
      unfold Wide
      omega

set_option maxRecDepth 100000 in
set_option maxHeartbeats 2000000 in
theorem pholds_any (x : Tst) (vs : List Int) (A : Option Addr) (c : Nat) (w : World) (h1 : Fit x.la) (h2 : Fit x.ra) (hv : ∀ y ∈ vs, Fit y) (hT : Ints w w.heap.size A vs) :
    Calls Try.prog 21 #[tval x, .slice A vs.length c] w fun e w' => e = .returned (.bool (holdsS x vs)) ∧ Below w.heap.size w w' := by
  have HC1 := Lib.hid (fun u hB hT => eval_any x.lv x.la vs A w.heap.size c u h1 hv hB hT)
  have HC2 := Lib.hid (fun u hB hT => eval_any x.rv x.ra vs A w.heap.size c u h2 hv hB hT)
  have HT := Lib.hid hT
  have HD := Lib.hid (show holdsS x vs = relS x.k (valS x.lv x.la vs) (valS x.rv x.ra vs) from rfl)
  have HW1 := Lib.hid (fun s h => val_wide (s := s) h1 hv (v := x.lv) h)
  have HW2 := Lib.hid (fun s h => val_wide (s := s) h2 hv (v := x.rv) h)
  obtain ⟨k, lv, la, rv, ra⟩ := x
  dsimp only at HC1 HC2 HD HW1 HW2
  clear hT h1 h2 hv
  generalize holdsS ⟨k, lv, la, rv, ra⟩ vs = R at HD ⊢
  generalize valS lv la vs = o1 at HC1 HD HW1
  generalize valS rv ra vs = o2 at HC2 HD HW2
  have HB0 := Lib.hid (fun (o : Obj) => (Below.refl w.heap.size w).alloc (Nat.le_refl _) o)
  cases o1 with
  | none =>
    have HR : Hid (R = false) := Lib.hid HD.out
    have HC : Hid (∀ u, w.heap.size ≤ u.heap.size → Ints u w.heap.size A vs → Calls Try.prog 47 #[.agg #[.int .i64 lv, .int .i64 la], .slice A vs.length c] u fun e w' => e = .returned (.tuple #[.agg #[.int .i64 0, .int .u64 0], .bool false]) ∧ Below u.heap.size u w') := HC1
    have HCR : Hid (∀ u, w.heap.size ≤ u.heap.size → Ints u w.heap.size A vs → Calls Try.prog 47 #[.agg #[.int .i64 rv, .int .i64 ra], .slice A vs.length c] u fun e w' => ∃ r1 r2 b, e = .returned (.tuple #[.agg #[.int .i64 r1, .int .u64 r2], .bool b]) ∧ Below u.heap.size u w') := Lib.hid fun u hB hT => (HC2.out u hB hT).mono (by
      rintro e w' ⟨rfl, hb⟩
      cases o2 with
      | none => exact ⟨_, _, _, rfl, hb⟩
      | some s => exact ⟨_, _, _, rfl, hb⟩)
    clear HC1 HC2 HD HW1 HW2
    go_enter Try.func21, Try.ntmps21
    go_wp2_with fail
    refine (HC.out _ (by simp) (Reads.below HT.out (HB0.out _))).mono ?_
    rintro e w1 ⟨rfl, hb1⟩
    have hb1' := below_one hb1
    have k3 := (hb1'.cell (p := ⟨w.heap.size, 3, none⟩) (by simp)).trans (show _ = some (Value.int .i64 rv) from by simp)
    have k4 := (hb1'.cell (p := ⟨w.heap.size, 4, none⟩) (by simp)).trans (show _ = some (Value.int .i64 ra) from by simp)
    have HB1 := Lib.hid ((HB0.out _).trans (hb1'.mono (by omega)))
    have hs1 : w.heap.size < w1.heap.size := by have := hb1'.size; simp at this; omega
    clear hb1 hb1'
    have k3' := (((Below.refl w1.heap.size w1).alloc (Nat.le_refl _) (.cells #[.int .i64 0, .int .u64 0] 79 (0, 0))).cell (p := ⟨w.heap.size, 3, none⟩) hs1).trans k3
    have k4' := (((Below.refl w1.heap.size w1).alloc (Nat.le_refl _) (.cells #[.int .i64 0, .int .u64 0] 79 (0, 0))).cell (p := ⟨w.heap.size, 4, none⟩) hs1).trans k4
    clear k3 k4
    go_wp2_with fail
    refine (HCR.out _ (by simp; omega) (Reads.below HT.out (HB1.out.alloc (by omega) _))).mono ?_
    rintro e w2 ⟨r1, r2, b, rfl, hb2⟩
    have HB2 := Lib.hid ((HB1.out.alloc (by omega) _).trans (hb2.mono (by simp; omega)))
    have hs2 := HB2.out.size
    clear hb2
    go_wp2_with fail
    go_ret
    exact ⟨ret_bool HR.out.symm, HB2.out.alloc hs2 _⟩
  | some s =>
    have hws := HW1.out s rfl
    have HC : Hid (∀ u, w.heap.size ≤ u.heap.size → Ints u w.heap.size A vs → Calls Try.prog 47 #[.agg #[.int .i64 lv, .int .i64 la], .slice A vs.length c] u fun e w' => e = .returned (.tuple #[.agg #[.int .i64 (hiT s), .int .u64 (loT s)], .bool true]) ∧ Below u.heap.size u w') := HC1
    clear HC1
    cases o2 with
    | none =>
      have HR : Hid (R = false) := Lib.hid HD.out
      have HCR : Hid (∀ u, w.heap.size ≤ u.heap.size → Ints u w.heap.size A vs → Calls Try.prog 47 #[.agg #[.int .i64 rv, .int .i64 ra], .slice A vs.length c] u fun e w' => e = .returned (.tuple #[.agg #[.int .i64 0, .int .u64 0], .bool false]) ∧ Below u.heap.size u w') := HC2
      generalize hiT s = p1 at HC
      generalize loT s = p2 at HC
      clear HC2 HD HW1 HW2 hws
      go_enter Try.func21, Try.ntmps21
      go_wp2_with fail
      refine (HC.out _ (by simp) (Reads.below HT.out (HB0.out _))).mono ?_
      rintro e w1 ⟨rfl, hb1⟩
      have hb1' := below_one hb1
      have hs1 : w.heap.size < w1.heap.size := by have := hb1'.size; simp at this; omega
      have k0 := ((hb1'.cell (p := ⟨w.heap.size, 0, none⟩) (by simp)).trans (show _ = some (Value.int .i64 k) from by simp))
      have k3 := (((Below.refl w1.heap.size w1).alloc (Nat.le_refl _) (.cells #[.int .i64 p1, .int .u64 p2] 79 (0, 0))).cell (p := ⟨w.heap.size, 3, none⟩) hs1).trans ((hb1'.cell (p := ⟨w.heap.size, 3, none⟩) (by simp)).trans (show _ = some (Value.int .i64 rv) from by simp))
      have k4 := (((Below.refl w1.heap.size w1).alloc (Nat.le_refl _) (.cells #[.int .i64 p1, .int .u64 p2] 79 (0, 0))).cell (p := ⟨w.heap.size, 4, none⟩) hs1).trans ((hb1'.cell (p := ⟨w.heap.size, 4, none⟩) (by simp)).trans (show _ = some (Value.int .i64 ra) from by simp))
      have HB1 := Lib.hid ((HB0.out _).trans (hb1'.mono (by omega)))
      have HK0 := Lib.hid k0
      clear hb1 hb1' k0
      go_wp2_with fail
      refine (HCR.out _ (by simp; omega) (Reads.below HT.out (HB1.out.alloc (by omega) _))).mono ?_
      rintro e w2 ⟨rfl, hb2⟩
      have hb2' := below_one hb2
      have HB2 := Lib.hid ((HB1.out.alloc (by omega) (.cells #[.int .i64 p1, .int .u64 p2] 79 (0, 0))).trans (hb2'.mono (by omega)))
      have hs2 := HB2.out.size
      have hs2' : w1.heap.size < w2.heap.size := by have := hb2'.size; simp at this; omega
      have m0 := (((Below.refl w2.heap.size w2).alloc (Nat.le_refl _) (.cells #[.int .i64 0, .int .u64 0] 79 (0, 0))).cell (p := ⟨w.heap.size, 0, none⟩) (by omega : w.heap.size < w2.heap.size)).trans ((hb2'.cell (p := ⟨w.heap.size, 0, none⟩) (by show w.heap.size < _; omega)).trans ((((Below.refl w1.heap.size w1).alloc (Nat.le_refl _) (.cells #[.int .i64 p1, .int .u64 p2] 79 (0, 0))).cell (p := ⟨w.heap.size, 0, none⟩) hs1).trans HK0.out))
      have m1 := (((Below.refl w2.heap.size w2).alloc (Nat.le_refl _) (.cells #[.int .i64 0, .int .u64 0] 79 (0, 0))).cell (p := ⟨w1.heap.size, 0, none⟩) hs2').trans ((hb2'.cell (p := ⟨w1.heap.size, 0, none⟩) (by simp)).trans (show _ = some (Value.int .i64 p1) from by simp))
      have m2 := (((Below.refl w2.heap.size w2).alloc (Nat.le_refl _) (.cells #[.int .i64 0, .int .u64 0] 79 (0, 0))).cell (p := ⟨w1.heap.size, 1, none⟩) hs2').trans ((hb2'.cell (p := ⟨w1.heap.size, 1, none⟩) (by simp)).trans (show _ = some (Value.int .u64 p2) from by simp))
      clear hb2 hb2' k3 k4
      go_wp2_with fail
      go_ret
      exact ⟨ret_bool HR.out.symm, HB2.out.alloc hs2 _⟩
    | some t =>
      have hwt := HW2.out t rfl
      have HCR : Hid (∀ u, w.heap.size ≤ u.heap.size → Ints u w.heap.size A vs → Calls Try.prog 47 #[.agg #[.int .i64 rv, .int .i64 ra], .slice A vs.length c] u fun e w' => e = .returned (.tuple #[.agg #[.int .i64 (hiT t), .int .u64 (loT t)], .bool true]) ∧ Below u.heap.size u w') := HC2
      have HLS := Lib.hid (less_iff hwt hws)
      have HEI := Lib.hid (fun h1 h2 => tot_inj hws hwt h1 h2)
      have HEJ : Hid (s = t → hiT s = hiT t ∧ loT s = loT t) := Lib.hid fun h => by rw [h]; exact ⟨rfl, rfl⟩
      generalize hiT s = p1 at HC HLS HEI HEJ
      generalize loT s = p2 at HC HLS HEI HEJ
      generalize hiT t = q1 at HCR HLS HEI HEJ
      generalize loT t = q2 at HCR HLS HEI HEJ
      clear HC2 HW1 HW2 hws hwt
      by_cases hk1 : k = 1
      · subst hk1
        have HE : Hid (R = decide (s ≤ t)) := Lib.hid (by rw [HD.out]; simp [relS])
        clear HD HEI HEJ
        by_cases hst : t < s
        · have HL : Hid (∀ u, Calls Try.prog 48 #[.agg #[.int .i64 q1, .int .u64 q2], .agg #[.int .i64 p1, .int .u64 p2]] u fun e w' => e = .returned (.bool true) ∧ Below u.heap.size u w') := Lib.hid fun u => by
            have := less_any q1 q2 p1 p2 u
            rw [decide_eq_true (HLS.out.2 hst)] at this
            exact this
          have HR : Hid (R = false) := Lib.hid (by rw [HE.out]; exact decide_eq_false (by omega))
          clear HE HLS hst
          go_enter Try.func21, Try.ntmps21
          go_wp2_with fail
          refine (HC.out _ (by simp) (Reads.below HT.out (HB0.out _))).mono ?_
          rintro e w1 ⟨rfl, hb1⟩
          have hb1' := below_one hb1
          have hs1 : w.heap.size < w1.heap.size := by have := hb1'.size; simp at this; omega
          have k0 := ((hb1'.cell (p := ⟨w.heap.size, 0, none⟩) (by simp)).trans (show _ = some (Value.int .i64 1) from by simp))
          have k3 := (((Below.refl w1.heap.size w1).alloc (Nat.le_refl _) (.cells #[.int .i64 p1, .int .u64 p2] 79 (0, 0))).cell (p := ⟨w.heap.size, 3, none⟩) hs1).trans ((hb1'.cell (p := ⟨w.heap.size, 3, none⟩) (by simp)).trans (show _ = some (Value.int .i64 rv) from by simp))
          have k4 := (((Below.refl w1.heap.size w1).alloc (Nat.le_refl _) (.cells #[.int .i64 p1, .int .u64 p2] 79 (0, 0))).cell (p := ⟨w.heap.size, 4, none⟩) hs1).trans ((hb1'.cell (p := ⟨w.heap.size, 4, none⟩) (by simp)).trans (show _ = some (Value.int .i64 ra) from by simp))
          have HB1 := Lib.hid ((HB0.out _).trans (hb1'.mono (by omega)))
          have HK0 := Lib.hid k0
          clear hb1 hb1' k0
          go_wp2_with fail
          refine (HCR.out _ (by simp; omega) (Reads.below HT.out (HB1.out.alloc (by omega) _))).mono ?_
          rintro e w2 ⟨rfl, hb2⟩
          have hb2' := below_one hb2
          have HB2 := Lib.hid ((HB1.out.alloc (by omega) (.cells #[.int .i64 p1, .int .u64 p2] 79 (0, 0))).trans (hb2'.mono (by omega)))
          have hs2 := HB2.out.size
          have hs2' : w1.heap.size < w2.heap.size := by have := hb2'.size; simp at this; omega
          have m0 := (((Below.refl w2.heap.size w2).alloc (Nat.le_refl _) (.cells #[.int .i64 q1, .int .u64 q2] 79 (0, 0))).cell (p := ⟨w.heap.size, 0, none⟩) (by omega : w.heap.size < w2.heap.size)).trans ((hb2'.cell (p := ⟨w.heap.size, 0, none⟩) (by show w.heap.size < _; omega)).trans ((((Below.refl w1.heap.size w1).alloc (Nat.le_refl _) (.cells #[.int .i64 p1, .int .u64 p2] 79 (0, 0))).cell (p := ⟨w.heap.size, 0, none⟩) hs1).trans HK0.out))
          have m1 := (((Below.refl w2.heap.size w2).alloc (Nat.le_refl _) (.cells #[.int .i64 q1, .int .u64 q2] 79 (0, 0))).cell (p := ⟨w1.heap.size, 0, none⟩) hs2').trans ((hb2'.cell (p := ⟨w1.heap.size, 0, none⟩) (by simp)).trans (show _ = some (Value.int .i64 p1) from by simp))
          have m2 := (((Below.refl w2.heap.size w2).alloc (Nat.le_refl _) (.cells #[.int .i64 q1, .int .u64 q2] 79 (0, 0))).cell (p := ⟨w1.heap.size, 1, none⟩) hs2').trans ((hb2'.cell (p := ⟨w1.heap.size, 1, none⟩) (by simp)).trans (show _ = some (Value.int .u64 p2) from by simp))
          clear hb2 hb2' k3 k4
          go_wp2_with fail
          refine (HL.out _).mono ?_
          rintro e w3 ⟨rfl, hb3⟩
          have HB3 := Lib.hid ((HB2.out.alloc hs2 (.cells #[.int .i64 q1, .int .u64 q2] 79 (0, 0))).trans (hb3.mono (by simp; omega)))
          clear hb3
          go_wp2_with fail
          go_ret
          exact ⟨ret_bool HR.out.symm, HB3.out⟩
        · have HL : Hid (∀ u, Calls Try.prog 48 #[.agg #[.int .i64 q1, .int .u64 q2], .agg #[.int .i64 p1, .int .u64 p2]] u fun e w' => e = .returned (.bool false) ∧ Below u.heap.size u w') := Lib.hid fun u => by
            have := less_any q1 q2 p1 p2 u
            rw [decide_eq_false (fun h => hst (HLS.out.1 h))] at this
            exact this
          have HR : Hid (R = true) := Lib.hid (by rw [HE.out]; exact decide_eq_true (by omega))
          clear HE HLS hst
          go_enter Try.func21, Try.ntmps21
          go_wp2_with fail
          refine (HC.out _ (by simp) (Reads.below HT.out (HB0.out _))).mono ?_
          rintro e w1 ⟨rfl, hb1⟩
          have hb1' := below_one hb1
          have hs1 : w.heap.size < w1.heap.size := by have := hb1'.size; simp at this; omega
          have k0 := ((hb1'.cell (p := ⟨w.heap.size, 0, none⟩) (by simp)).trans (show _ = some (Value.int .i64 1) from by simp))
          have k3 := (((Below.refl w1.heap.size w1).alloc (Nat.le_refl _) (.cells #[.int .i64 p1, .int .u64 p2] 79 (0, 0))).cell (p := ⟨w.heap.size, 3, none⟩) hs1).trans ((hb1'.cell (p := ⟨w.heap.size, 3, none⟩) (by simp)).trans (show _ = some (Value.int .i64 rv) from by simp))
          have k4 := (((Below.refl w1.heap.size w1).alloc (Nat.le_refl _) (.cells #[.int .i64 p1, .int .u64 p2] 79 (0, 0))).cell (p := ⟨w.heap.size, 4, none⟩) hs1).trans ((hb1'.cell (p := ⟨w.heap.size, 4, none⟩) (by simp)).trans (show _ = some (Value.int .i64 ra) from by simp))
          have HB1 := Lib.hid ((HB0.out _).trans (hb1'.mono (by omega)))
          have HK0 := Lib.hid k0
          clear hb1 hb1' k0
          go_wp2_with fail
          refine (HCR.out _ (by simp; omega) (Reads.below HT.out (HB1.out.alloc (by omega) _))).mono ?_
          rintro e w2 ⟨rfl, hb2⟩
          have hb2' := below_one hb2
          have HB2 := Lib.hid ((HB1.out.alloc (by omega) (.cells #[.int .i64 p1, .int .u64 p2] 79 (0, 0))).trans (hb2'.mono (by omega)))
          have hs2 := HB2.out.size
          have hs2' : w1.heap.size < w2.heap.size := by have := hb2'.size; simp at this; omega
          have m0 := (((Below.refl w2.heap.size w2).alloc (Nat.le_refl _) (.cells #[.int .i64 q1, .int .u64 q2] 79 (0, 0))).cell (p := ⟨w.heap.size, 0, none⟩) (by omega : w.heap.size < w2.heap.size)).trans ((hb2'.cell (p := ⟨w.heap.size, 0, none⟩) (by show w.heap.size < _; omega)).trans ((((Below.refl w1.heap.size w1).alloc (Nat.le_refl _) (.cells #[.int .i64 p1, .int .u64 p2] 79 (0, 0))).cell (p := ⟨w.heap.size, 0, none⟩) hs1).trans HK0.out))
          have m1 := (((Below.refl w2.heap.size w2).alloc (Nat.le_refl _) (.cells #[.int .i64 q1, .int .u64 q2] 79 (0, 0))).cell (p := ⟨w1.heap.size, 0, none⟩) hs2').trans ((hb2'.cell (p := ⟨w1.heap.size, 0, none⟩) (by simp)).trans (show _ = some (Value.int .i64 p1) from by simp))
          have m2 := (((Below.refl w2.heap.size w2).alloc (Nat.le_refl _) (.cells #[.int .i64 q1, .int .u64 q2] 79 (0, 0))).cell (p := ⟨w1.heap.size, 1, none⟩) hs2').trans ((hb2'.cell (p := ⟨w1.heap.size, 1, none⟩) (by simp)).trans (show _ = some (Value.int .u64 p2) from by simp))
          clear hb2 hb2' k3 k4
          go_wp2_with fail
          refine (HL.out _).mono ?_
          rintro e w3 ⟨rfl, hb3⟩
          have HB3 := Lib.hid ((HB2.out.alloc hs2 (.cells #[.int .i64 q1, .int .u64 q2] 79 (0, 0))).trans (hb3.mono (by simp; omega)))
          clear hb3
          go_wp2_with fail
          go_ret
          exact ⟨ret_bool HR.out.symm, HB3.out⟩
      · have tk1 : (k == 1) = false := by simp [hk1]
        by_cases hk2 : k = 2
        · subst hk2
          have HE : Hid (R = decide (s = t)) := Lib.hid (by rw [HD.out]; simp [relS])
          clear HD HLS hk1
          by_cases h1 : p1 = q1
          · by_cases h2 : p2 = q2
            · have HR : Hid (R = true) := Lib.hid (by rw [HE.out]; exact decide_eq_true (HEI.out h1 h2))
              subst h1 h2
              clear HE HEI HEJ
              go_enter Try.func21, Try.ntmps21
              go_wp2_with fail
              refine (HC.out _ (by simp) (Reads.below HT.out (HB0.out _))).mono ?_
              rintro e w1 ⟨rfl, hb1⟩
              have hb1' := below_one hb1
              have hs1 : w.heap.size < w1.heap.size := by have := hb1'.size; simp at this; omega
              have k0 := ((hb1'.cell (p := ⟨w.heap.size, 0, none⟩) (by simp)).trans (show _ = some (Value.int .i64 2) from by simp))
              have k3 := (((Below.refl w1.heap.size w1).alloc (Nat.le_refl _) (.cells #[.int .i64 p1, .int .u64 p2] 79 (0, 0))).cell (p := ⟨w.heap.size, 3, none⟩) hs1).trans ((hb1'.cell (p := ⟨w.heap.size, 3, none⟩) (by simp)).trans (show _ = some (Value.int .i64 rv) from by simp))
              have k4 := (((Below.refl w1.heap.size w1).alloc (Nat.le_refl _) (.cells #[.int .i64 p1, .int .u64 p2] 79 (0, 0))).cell (p := ⟨w.heap.size, 4, none⟩) hs1).trans ((hb1'.cell (p := ⟨w.heap.size, 4, none⟩) (by simp)).trans (show _ = some (Value.int .i64 ra) from by simp))
              have HB1 := Lib.hid ((HB0.out _).trans (hb1'.mono (by omega)))
              have HK0 := Lib.hid k0
              clear hb1 hb1' k0
              go_wp2_with fail
              refine (HCR.out _ (by simp; omega) (Reads.below HT.out (HB1.out.alloc (by omega) _))).mono ?_
              rintro e w2 ⟨rfl, hb2⟩
              have hb2' := below_one hb2
              have HB2 := Lib.hid ((HB1.out.alloc (by omega) (.cells #[.int .i64 p1, .int .u64 p2] 79 (0, 0))).trans (hb2'.mono (by omega)))
              have hs2 := HB2.out.size
              have hs2' : w1.heap.size < w2.heap.size := by have := hb2'.size; simp at this; omega
              have m0 := (((Below.refl w2.heap.size w2).alloc (Nat.le_refl _) (.cells #[.int .i64 p1, .int .u64 p2] 79 (0, 0))).cell (p := ⟨w.heap.size, 0, none⟩) (by omega : w.heap.size < w2.heap.size)).trans ((hb2'.cell (p := ⟨w.heap.size, 0, none⟩) (by show w.heap.size < _; omega)).trans ((((Below.refl w1.heap.size w1).alloc (Nat.le_refl _) (.cells #[.int .i64 p1, .int .u64 p2] 79 (0, 0))).cell (p := ⟨w.heap.size, 0, none⟩) hs1).trans HK0.out))
              have m1 := (((Below.refl w2.heap.size w2).alloc (Nat.le_refl _) (.cells #[.int .i64 p1, .int .u64 p2] 79 (0, 0))).cell (p := ⟨w1.heap.size, 0, none⟩) hs2').trans ((hb2'.cell (p := ⟨w1.heap.size, 0, none⟩) (by simp)).trans (show _ = some (Value.int .i64 p1) from by simp))
              have m2 := (((Below.refl w2.heap.size w2).alloc (Nat.le_refl _) (.cells #[.int .i64 p1, .int .u64 p2] 79 (0, 0))).cell (p := ⟨w1.heap.size, 1, none⟩) hs2').trans ((hb2'.cell (p := ⟨w1.heap.size, 1, none⟩) (by simp)).trans (show _ = some (Value.int .u64 p2) from by simp))
              clear hb2 hb2' k3 k4
              go_wp2_with fail
              go_ret
              exact ⟨ret_bool HR.out.symm, HB2.out.alloc hs2 _⟩
            · have HR : Hid (R = false) := Lib.hid (by rw [HE.out]; exact decide_eq_false (fun h => h2 (HEJ.out h).2))
              have t2 : (p2 == q2) = false := by simp [h2]
              subst h1
              clear HE HEI HEJ h2
              go_enter Try.func21, Try.ntmps21
              go_wp2_with fail
              refine (HC.out _ (by simp) (Reads.below HT.out (HB0.out _))).mono ?_
              rintro e w1 ⟨rfl, hb1⟩
              have hb1' := below_one hb1
              have hs1 : w.heap.size < w1.heap.size := by have := hb1'.size; simp at this; omega
              have k0 := ((hb1'.cell (p := ⟨w.heap.size, 0, none⟩) (by simp)).trans (show _ = some (Value.int .i64 2) from by simp))
              have k3 := (((Below.refl w1.heap.size w1).alloc (Nat.le_refl _) (.cells #[.int .i64 p1, .int .u64 p2] 79 (0, 0))).cell (p := ⟨w.heap.size, 3, none⟩) hs1).trans ((hb1'.cell (p := ⟨w.heap.size, 3, none⟩) (by simp)).trans (show _ = some (Value.int .i64 rv) from by simp))
              have k4 := (((Below.refl w1.heap.size w1).alloc (Nat.le_refl _) (.cells #[.int .i64 p1, .int .u64 p2] 79 (0, 0))).cell (p := ⟨w.heap.size, 4, none⟩) hs1).trans ((hb1'.cell (p := ⟨w.heap.size, 4, none⟩) (by simp)).trans (show _ = some (Value.int .i64 ra) from by simp))
              have HB1 := Lib.hid ((HB0.out _).trans (hb1'.mono (by omega)))
              have HK0 := Lib.hid k0
              clear hb1 hb1' k0
              go_wp2_with fail
              refine (HCR.out _ (by simp; omega) (Reads.below HT.out (HB1.out.alloc (by omega) _))).mono ?_
              rintro e w2 ⟨rfl, hb2⟩
              have hb2' := below_one hb2
              have HB2 := Lib.hid ((HB1.out.alloc (by omega) (.cells #[.int .i64 p1, .int .u64 p2] 79 (0, 0))).trans (hb2'.mono (by omega)))
              have hs2 := HB2.out.size
              have hs2' : w1.heap.size < w2.heap.size := by have := hb2'.size; simp at this; omega
              have m0 := (((Below.refl w2.heap.size w2).alloc (Nat.le_refl _) (.cells #[.int .i64 p1, .int .u64 q2] 79 (0, 0))).cell (p := ⟨w.heap.size, 0, none⟩) (by omega : w.heap.size < w2.heap.size)).trans ((hb2'.cell (p := ⟨w.heap.size, 0, none⟩) (by show w.heap.size < _; omega)).trans ((((Below.refl w1.heap.size w1).alloc (Nat.le_refl _) (.cells #[.int .i64 p1, .int .u64 p2] 79 (0, 0))).cell (p := ⟨w.heap.size, 0, none⟩) hs1).trans HK0.out))
              have m1 := (((Below.refl w2.heap.size w2).alloc (Nat.le_refl _) (.cells #[.int .i64 p1, .int .u64 q2] 79 (0, 0))).cell (p := ⟨w1.heap.size, 0, none⟩) hs2').trans ((hb2'.cell (p := ⟨w1.heap.size, 0, none⟩) (by simp)).trans (show _ = some (Value.int .i64 p1) from by simp))
              have m2 := (((Below.refl w2.heap.size w2).alloc (Nat.le_refl _) (.cells #[.int .i64 p1, .int .u64 q2] 79 (0, 0))).cell (p := ⟨w1.heap.size, 1, none⟩) hs2').trans ((hb2'.cell (p := ⟨w1.heap.size, 1, none⟩) (by simp)).trans (show _ = some (Value.int .u64 p2) from by simp))
              clear hb2 hb2' k3 k4
              go_wp2_with fail
              go_ret
              exact ⟨ret_bool HR.out.symm, HB2.out.alloc hs2 _⟩
          · have HR : Hid (R = false) := Lib.hid (by rw [HE.out]; exact decide_eq_false (fun h => h1 (HEJ.out h).1))
            have t2 : (p1 == q1) = false := by simp [h1]
            clear HE HEI HEJ h1
            go_enter Try.func21, Try.ntmps21
            go_wp2_with fail
            refine (HC.out _ (by simp) (Reads.below HT.out (HB0.out _))).mono ?_
            rintro e w1 ⟨rfl, hb1⟩
            have hb1' := below_one hb1
            have hs1 : w.heap.size < w1.heap.size := by have := hb1'.size; simp at this; omega
            have k0 := ((hb1'.cell (p := ⟨w.heap.size, 0, none⟩) (by simp)).trans (show _ = some (Value.int .i64 2) from by simp))
            have k3 := (((Below.refl w1.heap.size w1).alloc (Nat.le_refl _) (.cells #[.int .i64 p1, .int .u64 p2] 79 (0, 0))).cell (p := ⟨w.heap.size, 3, none⟩) hs1).trans ((hb1'.cell (p := ⟨w.heap.size, 3, none⟩) (by simp)).trans (show _ = some (Value.int .i64 rv) from by simp))
            have k4 := (((Below.refl w1.heap.size w1).alloc (Nat.le_refl _) (.cells #[.int .i64 p1, .int .u64 p2] 79 (0, 0))).cell (p := ⟨w.heap.size, 4, none⟩) hs1).trans ((hb1'.cell (p := ⟨w.heap.size, 4, none⟩) (by simp)).trans (show _ = some (Value.int .i64 ra) from by simp))
            have HB1 := Lib.hid ((HB0.out _).trans (hb1'.mono (by omega)))
            have HK0 := Lib.hid k0
            clear hb1 hb1' k0
            go_wp2_with fail
            refine (HCR.out _ (by simp; omega) (Reads.below HT.out (HB1.out.alloc (by omega) _))).mono ?_
            rintro e w2 ⟨rfl, hb2⟩
            have hb2' := below_one hb2
            have HB2 := Lib.hid ((HB1.out.alloc (by omega) (.cells #[.int .i64 p1, .int .u64 p2] 79 (0, 0))).trans (hb2'.mono (by omega)))
            have hs2 := HB2.out.size
            have hs2' : w1.heap.size < w2.heap.size := by have := hb2'.size; simp at this; omega
            have m0 := (((Below.refl w2.heap.size w2).alloc (Nat.le_refl _) (.cells #[.int .i64 q1, .int .u64 q2] 79 (0, 0))).cell (p := ⟨w.heap.size, 0, none⟩) (by omega : w.heap.size < w2.heap.size)).trans ((hb2'.cell (p := ⟨w.heap.size, 0, none⟩) (by show w.heap.size < _; omega)).trans ((((Below.refl w1.heap.size w1).alloc (Nat.le_refl _) (.cells #[.int .i64 p1, .int .u64 p2] 79 (0, 0))).cell (p := ⟨w.heap.size, 0, none⟩) hs1).trans HK0.out))
            have m1 := (((Below.refl w2.heap.size w2).alloc (Nat.le_refl _) (.cells #[.int .i64 q1, .int .u64 q2] 79 (0, 0))).cell (p := ⟨w1.heap.size, 0, none⟩) hs2').trans ((hb2'.cell (p := ⟨w1.heap.size, 0, none⟩) (by simp)).trans (show _ = some (Value.int .i64 p1) from by simp))
            have m2 := (((Below.refl w2.heap.size w2).alloc (Nat.le_refl _) (.cells #[.int .i64 q1, .int .u64 q2] 79 (0, 0))).cell (p := ⟨w1.heap.size, 1, none⟩) hs2').trans ((hb2'.cell (p := ⟨w1.heap.size, 1, none⟩) (by simp)).trans (show _ = some (Value.int .u64 p2) from by simp))
            clear hb2 hb2' k3 k4
            go_wp2_with fail
            go_ret
            exact ⟨ret_bool HR.out.symm, HB2.out.alloc hs2 _⟩
        · have HR : Hid (R = false) := Lib.hid (by rw [HD.out]; simp [relS, hk1, hk2])
          have tk2 : (k == 2) = false := by simp [hk2]
          clear HD HLS HEI HEJ hk1 hk2
          go_enter Try.func21, Try.ntmps21
          go_wp2_with fail
          refine (HC.out _ (by simp) (Reads.below HT.out (HB0.out _))).mono ?_
          rintro e w1 ⟨rfl, hb1⟩
          have hb1' := below_one hb1
          have hs1 : w.heap.size < w1.heap.size := by have := hb1'.size; simp at this; omega
          have k0 := ((hb1'.cell (p := ⟨w.heap.size, 0, none⟩) (by simp)).trans (show _ = some (Value.int .i64 k) from by simp))
          have k3 := (((Below.refl w1.heap.size w1).alloc (Nat.le_refl _) (.cells #[.int .i64 p1, .int .u64 p2] 79 (0, 0))).cell (p := ⟨w.heap.size, 3, none⟩) hs1).trans ((hb1'.cell (p := ⟨w.heap.size, 3, none⟩) (by simp)).trans (show _ = some (Value.int .i64 rv) from by simp))
          have k4 := (((Below.refl w1.heap.size w1).alloc (Nat.le_refl _) (.cells #[.int .i64 p1, .int .u64 p2] 79 (0, 0))).cell (p := ⟨w.heap.size, 4, none⟩) hs1).trans ((hb1'.cell (p := ⟨w.heap.size, 4, none⟩) (by simp)).trans (show _ = some (Value.int .i64 ra) from by simp))
          have HB1 := Lib.hid ((HB0.out _).trans (hb1'.mono (by omega)))
          have HK0 := Lib.hid k0
          clear hb1 hb1' k0
          go_wp2_with fail
          refine (HCR.out _ (by simp; omega) (Reads.below HT.out (HB1.out.alloc (by omega) _))).mono ?_
          rintro e w2 ⟨rfl, hb2⟩
          have hb2' := below_one hb2
          have HB2 := Lib.hid ((HB1.out.alloc (by omega) (.cells #[.int .i64 p1, .int .u64 p2] 79 (0, 0))).trans (hb2'.mono (by omega)))
          have hs2 := HB2.out.size
          have hs2' : w1.heap.size < w2.heap.size := by have := hb2'.size; simp at this; omega
          have m0 := (((Below.refl w2.heap.size w2).alloc (Nat.le_refl _) (.cells #[.int .i64 q1, .int .u64 q2] 79 (0, 0))).cell (p := ⟨w.heap.size, 0, none⟩) (by omega : w.heap.size < w2.heap.size)).trans ((hb2'.cell (p := ⟨w.heap.size, 0, none⟩) (by show w.heap.size < _; omega)).trans ((((Below.refl w1.heap.size w1).alloc (Nat.le_refl _) (.cells #[.int .i64 p1, .int .u64 p2] 79 (0, 0))).cell (p := ⟨w.heap.size, 0, none⟩) hs1).trans HK0.out))
          have m1 := (((Below.refl w2.heap.size w2).alloc (Nat.le_refl _) (.cells #[.int .i64 q1, .int .u64 q2] 79 (0, 0))).cell (p := ⟨w1.heap.size, 0, none⟩) hs2').trans ((hb2'.cell (p := ⟨w1.heap.size, 0, none⟩) (by simp)).trans (show _ = some (Value.int .i64 p1) from by simp))
          have m2 := (((Below.refl w2.heap.size w2).alloc (Nat.le_refl _) (.cells #[.int .i64 q1, .int .u64 q2] 79 (0, 0))).cell (p := ⟨w1.heap.size, 1, none⟩) hs2').trans ((hb2'.cell (p := ⟨w1.heap.size, 1, none⟩) (by simp)).trans (show _ = some (Value.int .u64 p2) from by simp))
          clear hb2 hb2' k3 k4
          go_wp2_with fail
          go_ret
          exact ⟨ret_bool HR.out.symm, HB2.out.alloc hs2 _⟩

end Go.Proofs.Ytcmibhechhcpiaa
