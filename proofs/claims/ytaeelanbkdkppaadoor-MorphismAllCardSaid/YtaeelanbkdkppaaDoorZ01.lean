import Derived.Lib.TrailingZeros
import Derived.Test.YtaeelanbkdkppaaDoorProg
import Derived.WalkKit
import Derived.WalkSpells
import Derived.WalkLawsBesides
import Derived.Lib.Hide
import Derived.BigQuiet
import Derived.Deep.QuietTactic
import Derived.StillTailTactics
import Derived.IntWalk
import Derived.ArgAppend
import Derived.Shelf.Spec.TrailingZeros
/-
  Sets of small numbers as the bits of a number: their elements ascending, the lowest one, their count.
-/
namespace Go.Proofs.YtaeelanbkdkppaaDoor
open Go

/-- the elements of a set, ascending -/
def bitsOf (s : Nat) : List Nat := (List.range 64).filter s.testBit
theorem mem_bitsOf {s v : Nat} : v ∈ bitsOf s ↔ v < 64 ∧ s.testBit v = true := by simp [bitsOf]
theorem bitsOf_zero : bitsOf 0 = [] := by
  unfold bitsOf
  rw [List.filter_eq_nil_iff]
  intro a _
  simp
theorem filter_first (p : Nat → Bool) (k : Nat) (hk : p k = true) (hlt : ∀ i, i < k → p i = false) : ∀ n, k < n → (List.range n).filter p = k :: (List.range n).filter (fun i => p i && i != k) := by
  intro n
  induction n with
  | zero => intro h; omega
  | succ n ih =>
    intro h
    rw [List.range_succ, List.filter_append, List.filter_append]
    by_cases e : k = n
    · subst e
      have h1 : (List.range k).filter p = [] := by
        rw [List.filter_eq_nil_iff]
        intro a ha
        rw [hlt a (by simpa using ha)]
        simp
      have h2 : (List.range k).filter (fun i => p i && i != k) = [] := by
        rw [List.filter_eq_nil_iff]
        intro a ha
        rw [hlt a (by simpa using ha)]
        simp
      rw [h1, h2]
      simp [hk]
    · rw [ih (by omega)]
      have : (n != k) = true := by simp; omega
      simp only [List.filter_cons, List.filter_nil, this, Bool.and_true, List.cons_append]
theorem testBit_pop {s : Nat} (h0 : s ≠ 0) (h : s < 18446744073709551616) : Lib.ctz 64 s < 64 ∧ s.testBit (Lib.ctz 64 s) = true ∧ (∀ i, i < Lib.ctz 64 s → s.testBit i = false) ∧ ∀ i, (s &&& (s - 1)).testBit i = (s.testBit i && i != Lib.ctz 64 s) := by
  have hc : Lib.ctz 64 s = Lib.ctzFrom 64 s := by unfold Lib.ctz; rw [if_neg h0]
  obtain ⟨m, hm, hk⟩ := Lib.ctzFrom_spec 64 s (by omega) (by omega)
  rw [hc]
  generalize Lib.ctzFrom 64 s = k at hm hk ⊢
  have hpos : 0 < 2 ^ k := Nat.two_pow_pos k
  have hs : ∀ i, s.testBit i = if i < k then false else (2 * m + 1).testBit (i - k) := by
    intro i
    rw [hm]
    have := Nat.testBit_two_pow_mul_add (2 * m + 1) (b := 0) (i := k) hpos i
    rw [Nat.add_zero] at this
    rw [this]
    simp
  have hp : ∀ i, (s - 1).testBit i = if i < k then true else (2 * m).testBit (i - k) := by
    intro i
    have e : s - 1 = 2 ^ k * (2 * m) + (2 ^ k - 1) := by
      rw [hm, Nat.mul_add, Nat.mul_one]
      omega
    rw [e, Nat.testBit_two_pow_mul_add _ (by omega)]
    by_cases hi : i < k
    · rw [if_pos hi, if_pos hi, Nat.testBit_two_pow_sub_one]
      simp [hi]
    · rw [if_neg hi, if_neg hi]
  refine ⟨hk, ?_, fun i hi => ?_, fun i => ?_⟩
  · rw [hs, if_neg (by omega), Nat.sub_self, Nat.testBit_zero]
    simp
  · rw [hs, if_pos hi]
  · rw [Nat.testBit_and, hs, hp]
    by_cases hi : i < k
    · simp [hi]
    · rw [if_neg hi, if_neg hi]
      by_cases e : i = k
      · subst e
        rw [Nat.sub_self, Nat.testBit_zero, Nat.testBit_zero]
        simp
      · obtain ⟨j, hj⟩ : ∃ j, i - k = j + 1 := ⟨i - k - 1, by omega⟩
        rw [hj, Nat.testBit_succ, Nat.testBit_succ]
        have e1 : (2 * m + 1) / 2 = m := by omega
        have e2 : 2 * m / 2 = m := by omega
        rw [e1, e2]
        simp [e]
theorem bitsOf_pop {s : Nat} (h0 : s ≠ 0) (h : s < 18446744073709551616) : bitsOf s = Lib.ctz 64 s :: bitsOf (s &&& (s - 1)) := by
  obtain ⟨h1, h2, h3, h4⟩ := testBit_pop h0 h
  unfold bitsOf
  rw [filter_first s.testBit _ h2 h3 64 h1]
  congr 1
  apply List.filter_congr
  intro i _
  rw [h4]
theorem pop_lt {s : Nat} (h : s < 18446744073709551616) : s &&& (s - 1) < 18446744073709551616 := Nat.lt_of_le_of_lt Nat.and_le_left h
theorem bitsOf_eq_nil {s : Nat} (h : s < 18446744073709551616) : bitsOf s = [] ↔ s = 0 := by
  refine ⟨fun e => ?_, fun e => by rw [e]; exact bitsOf_zero⟩
  rcases Nat.eq_zero_or_pos s with h0 | h0
  · exact h0
  · rw [bitsOf_pop (by omega) h] at e
    cases e
theorem bitsOf_asc (s : Nat) : (bitsOf s).Pairwise (· < ·) := by
  unfold bitsOf
  exact List.Pairwise.filter _ List.pairwise_lt_range
theorem bitsOf_lt {s v : Nat} (h : v ∈ bitsOf s) : v < 64 := (mem_bitsOf.1 h).1
theorem shl_lt {v : Nat} (h : v < 64) : 2 ^ v < 18446744073709551616 := by
  have := Nat.pow_lt_pow_right (a := 2) (by decide) h
  simpa using this
theorem testBit_one (v i : Nat) : (2 ^ v).testBit i = decide (v = i) := Nat.testBit_two_pow
theorem bitsOf_one {v : Nat} (h : v < 64) : bitsOf (2 ^ v) = [v] := by
  have h0 : 2 ^ v ≠ 0 := Nat.ne_of_gt (Nat.two_pow_pos v)
  obtain ⟨h1, h2, h3, h4⟩ := testBit_pop h0 (shl_lt h)
  rw [testBit_one] at h2
  have e : v = Lib.ctz 64 (2 ^ v) := by simpa using h2
  rw [bitsOf_pop h0 (shl_lt h), ← e]
  congr 1
  rw [bitsOf_eq_nil (pop_lt (shl_lt h))]
  apply Nat.eq_of_testBit_eq
  intro i
  rw [h4, testBit_one, ← e]
  by_cases hi : v = i
  · subst hi; simp
  · simp [hi]

/-! the count of the bits, as math/bits has it -/
def valB : List Nat → Nat
  | [] => 0
  | b :: bs => b + 256 * valB bs
def msk (c : Nat) : Nat → Nat
  | 0 => 0
  | n + 1 => c + 256 * msk c n
theorem and_val (b c x y : Nat) (hb : b < 256) (hc : c < 256) : (b + 256 * x) &&& (c + 256 * y) = (b &&& c) + 256 * (x &&& y) := by
  have hbc : b &&& c < 2 ^ 8 := Nat.lt_of_le_of_lt Nat.and_le_left hb
  rw [Nat.add_comm b, Nat.add_comm c, Nat.add_comm (b &&& c)]
  apply Nat.eq_of_testBit_eq
  intro i
  rw [Nat.testBit_and, show (256 : Nat) = 2 ^ 8 from rfl, Nat.testBit_two_pow_mul_add _ hb, Nat.testBit_two_pow_mul_add _ hc, Nat.testBit_two_pow_mul_add _ hbc]
  by_cases h : i < 8
  · simp [h]
  · simp [h]
def g1 (b : Nat) : Nat := (b / 2 &&& 85) + (b &&& 85)
def g2 (b : Nat) : Nat := (b / 4 &&& 51) + (b &&& 51)
def g3 (b : Nat) : Nat := b / 16 + b % 16
theorem g1_all : ∀ b, b < 256 → (∀ p, p < 2 → (b / 2 + 128 * p) &&& 85 = b / 2 &&& 85) ∧ g1 b < 256 ∧ b / 2 < 128 := by decide +kernel
theorem g2_all : ∀ b, b < 256 → (∀ p, p < 4 → (b / 4 + 64 * p) &&& 51 = b / 4 &&& 51) ∧ g2 b % 16 ≤ 6 ∧ g2 b / 16 ≤ 6 ∧ g2 b < 256 := by decide +kernel
theorem g21_all : ∀ b, b < 256 → g2 (g1 b) % 16 ≤ 4 ∧ g2 (g1 b) / 16 ≤ 4 := by decide +kernel
theorem g3_all : ∀ b, b < 69 → ∀ q, q < 5 → b % 16 ≤ 4 → (b / 16 + b + 16 * q) &&& 15 = g3 b := by decide +kernel
def popB (b : Nat) : Nat := ((List.range 8).filter b.testBit).length
theorem g321_all : ∀ b, b < 256 → g3 (g2 (g1 b)) = popB b ∧ popB b ≤ 8 := by decide +kernel

theorem step1 : ∀ bs : List Nat, (∀ b ∈ bs, b < 256) → (valB bs / 2 &&& msk 85 bs.length) + (valB bs &&& msk 85 bs.length) = valB (bs.map g1) := by
  intro bs
  induction bs with
  | nil => intro _; rfl
  | cons b bs ih =>
    intro h
    have hb := h b List.mem_cons_self
    obtain ⟨h1, h2, h3⟩ := g1_all b hb
    have ih := ih fun c hc => h c (List.mem_cons_of_mem _ hc)
    show ((b + 256 * valB bs) / 2 &&& (85 + 256 * msk 85 bs.length)) + ((b + 256 * valB bs) &&& (85 + 256 * msk 85 bs.length)) = g1 b + 256 * valB (bs.map g1)
    have e : (b + 256 * valB bs) / 2 = (b / 2 + 128 * (valB bs % 2)) + 256 * (valB bs / 2) := by omega
    rw [e, and_val _ _ _ _ (by omega) (by omega), and_val _ _ _ _ hb (by omega), h1 _ (by omega), ← ih]
    unfold g1
    omega
theorem step2 : ∀ bs : List Nat, (∀ b ∈ bs, b < 256) → (valB bs / 4 &&& msk 51 bs.length) + (valB bs &&& msk 51 bs.length) = valB (bs.map g2) := by
  intro bs
  induction bs with
  | nil => intro _; rfl
  | cons b bs ih =>
    intro h
    have hb := h b List.mem_cons_self
    obtain ⟨h1, h2, h3⟩ := g2_all b hb
    have ih := ih fun c hc => h c (List.mem_cons_of_mem _ hc)
    show ((b + 256 * valB bs) / 4 &&& (51 + 256 * msk 51 bs.length)) + ((b + 256 * valB bs) &&& (51 + 256 * msk 51 bs.length)) = g2 b + 256 * valB (bs.map g2)
    have e : (b + 256 * valB bs) / 4 = (b / 4 + 64 * (valB bs % 4)) + 256 * (valB bs / 4) := by omega
    rw [e, and_val _ _ _ _ (by omega) (by omega), and_val _ _ _ _ hb (by omega), h1 _ (by omega), ← ih]
    unfold g2
    omega
theorem step3 : ∀ bs : List Nat, (∀ b ∈ bs, b % 16 ≤ 4 ∧ b / 16 ≤ 4) → (valB bs / 16 + valB bs) &&& msk 15 bs.length = valB (bs.map g3) := by
  intro bs
  induction bs with
  | nil => intro _; rfl
  | cons b bs ih =>
    intro h
    obtain ⟨h1, h2⟩ := h b List.mem_cons_self
    have ih := ih fun c hc => h c (List.mem_cons_of_mem _ hc)
    have hq : valB bs % 16 < 5 := by
      cases bs with
      | nil => exact Nat.zero_lt_succ _
      | cons c cs =>
        obtain ⟨h3, h4⟩ := h c (List.mem_cons_of_mem _ List.mem_cons_self)
        show (c + 256 * valB cs) % 16 < 5
        omega
    show ((b + 256 * valB bs) / 16 + (b + 256 * valB bs)) &&& (15 + 256 * msk 15 bs.length) = g3 b + 256 * valB (bs.map g3)
    have e : (b + 256 * valB bs) / 16 + (b + 256 * valB bs) = (b / 16 + b + 16 * (valB bs % 16)) + 256 * (valB bs / 16 + valB bs) := by omega
    rw [e, and_val _ _ _ _ (by omega) (by omega), ih, g3_all b (by omega) _ hq h1]
/-- the eight bytes of a number -/
def bytesN (x : Nat) : Nat → List Nat
  | 0 => []
  | n + 1 => x % 256 :: bytesN (x / 256) n
theorem bytesN_length : ∀ (n x : Nat), (bytesN x n).length = n := by
  intro n
  induction n with
  | zero => intro x; rfl
  | succ n ih => intro x; simp [bytesN, ih]
theorem bytesN_lt : ∀ (n x b : Nat), b ∈ bytesN x n → b < 256 := by
  intro n
  induction n with
  | zero => intro x b h; cases h
  | succ n ih =>
    intro x b h
    rcases List.mem_cons.1 h with rfl | h
    · exact Nat.mod_lt _ (by omega)
    · exact ih _ _ h
theorem bytesN_val : ∀ (n x : Nat), x < 256 ^ n → valB (bytesN x n) = x := by
  intro n
  induction n with
  | zero => intro x h; simp at h; rw [h]; rfl
  | succ n ih =>
    intro x h
    show x % 256 + 256 * valB (bytesN (x / 256) n) = x
    rw [ih (x / 256) (by rw [Nat.pow_succ] at h; omega)]
    omega
theorem popB_sum : ∀ (n x : Nat), ((List.range (8 * n)).filter x.testBit).length = ((bytesN x n).map popB).sum := by
  intro n
  induction n with
  | zero => intro x; rfl
  | succ n ih =>
    intro x
    rw [show 8 * (n + 1) = 8 + 8 * n by omega, List.range_add, List.filter_append, List.length_append, List.filter_map, List.length_map]
    show _ = popB (x % 256) + ((bytesN (x / 256) n).map popB).sum
    rw [← ih]
    congr 1
    · unfold popB
      congr 1
      apply List.filter_congr
      intro i hi
      have hi : i < 8 := by simpa using hi
      rw [show (256 : Nat) = 2 ^ 8 from rfl, Nat.testBit_mod_two_pow]
      simp [hi]
    · congr 1
      apply List.filter_congr
      intro i _
      show x.testBit (8 + i) = _
      rw [show x / 256 = x >>> 8 by rw [Nat.shiftRight_eq_div_pow], Nat.testBit_shiftRight]
theorem val_div (b : Nat) (bs : List Nat) (h : b < 256) : valB (b :: bs) / 256 = valB bs := by
  show (b + 256 * valB bs) / 256 = valB bs
  generalize valB bs = v
  omega
theorem val_add (b c : Nat) (bs cs : List Nat) {v : Nat} (h : valB bs + valB cs = v) : valB (b :: bs) + valB (c :: cs) = (b + c) + 256 * v := by
  show (b + 256 * valB bs) + (c + 256 * valB cs) = _
  rw [← h]
  generalize valB bs = v
  generalize valB cs = u
  omega
theorem val_lt (bs : List Nat) (h : ∀ b ∈ bs, b < 256) : valB bs < 256 ^ bs.length := by
  induction bs with
  | nil => exact Nat.zero_lt_one
  | cons b bs ih =>
    have ih := ih fun c hc => h c (List.mem_cons_of_mem _ hc)
    have hb := h b List.mem_cons_self
    show b + 256 * valB bs < 256 ^ (bs.length + 1)
    rw [Nat.pow_succ]
    generalize 256 ^ bs.length = u at ih ⊢
    generalize valB bs = v at ih ⊢
    omega
theorem sum_tail (a b c d e f g h : Nat) (ha : a ≤ 8) (hb : b ≤ 8) (hc : c ≤ 8) (hd : d ≤ 8) (he : e ≤ 8) (hf : f ≤ 8) (hg : g ≤ 8) (hh : h ≤ 8) (x y z : Nat)
    (hx : x = valB [a, b, c, d, e, f, g, h]) (hy : y = x + x / 256) (hz : z = y + y / 65536) : (z + z / 4294967296) % 128 = a + b + c + d + e + f + g + h ∧ x < 18446744073709551616 ∧ y < 18446744073709551616 ∧ z < 18446744073709551616 ∧ z + z / 4294967296 < 18446744073709551616 := by
  have x2 : x / 256 = valB [b, c, d, e, f, g, h, 0] := by
    rw [hx, val_div _ _ (by omega)]
    rfl
  have y1 : y = valB [a + b, b + c, c + d, d + e, e + f, f + g, g + h, h + 0] := by
    rw [hy, x2, hx]
    exact val_add _ _ _ _ (val_add _ _ _ _ (val_add _ _ _ _ (val_add _ _ _ _ (val_add _ _ _ _ (val_add _ _ _ _ (val_add _ _ _ _ (val_add _ _ _ _ rfl)))))))
  have y2 : y / 65536 = valB [c + d, d + e, e + f, f + g, g + h, h + 0, 0, 0] := by
    rw [show (65536 : Nat) = 256 * 256 from rfl, ← Nat.div_div_eq_div_mul, y1, val_div _ _ (by omega), val_div _ _ (by omega)]
    rfl
  have z1 : z = valB [a + b + (c + d), b + c + (d + e), c + d + (e + f), d + e + (f + g), e + f + (g + h), f + g + (h + 0), g + h + 0, h + 0 + 0] := by
    rw [hz, y2, y1]
    exact val_add _ _ _ _ (val_add _ _ _ _ (val_add _ _ _ _ (val_add _ _ _ _ (val_add _ _ _ _ (val_add _ _ _ _ (val_add _ _ _ _ (val_add _ _ _ _ rfl)))))))
  have z2 : z / 4294967296 = valB [e + f + (g + h), f + g + (h + 0), g + h + 0, h + 0 + 0] := by
    rw [show (4294967296 : Nat) = 256 * 256 * 256 * 256 from rfl, ← Nat.div_div_eq_div_mul, ← Nat.div_div_eq_div_mul, ← Nat.div_div_eq_div_mul, z1, val_div _ _ (by omega), val_div _ _ (by omega), val_div _ _ (by omega), val_div _ _ (by omega)]
  have u1 : z + z / 4294967296 = valB [a + b + (c + d) + (e + f + (g + h)), b + c + (d + e) + (f + g + (h + 0)), c + d + (e + f) + (g + h + 0), d + e + (f + g) + (h + 0 + 0), e + f + (g + h) + 0, f + g + (h + 0) + 0, g + h + 0 + 0, h + 0 + 0 + 0] := by
    have e : valB [e + f + (g + h), f + g + (h + 0), g + h + 0, h + 0 + 0] = valB [e + f + (g + h), f + g + (h + 0), g + h + 0, h + 0 + 0, 0, 0, 0, 0] := rfl
    rw [z2, z1, e]
    exact val_add _ _ _ _ (val_add _ _ _ _ (val_add _ _ _ _ (val_add _ _ _ _ (val_add _ _ _ _ (val_add _ _ _ _ (val_add _ _ _ _ (val_add _ _ _ _ rfl)))))))
  have lt : ∀ bs : List Nat, bs.length = 8 → (∀ b ∈ bs, b < 256) → valB bs < 18446744073709551616 := fun bs hl hb => by
    have := val_lt bs hb
    rw [hl] at this
    exact this
  refine ⟨?_, by rw [hx]; refine lt _ rfl ?_; simp only [List.mem_cons, List.not_mem_nil, or_false]; rintro i (rfl | rfl | rfl | rfl | rfl | rfl | rfl | rfl) <;> omega, by rw [y1]; refine lt _ rfl ?_; simp only [List.mem_cons, List.not_mem_nil, or_false]; rintro i (rfl | rfl | rfl | rfl | rfl | rfl | rfl | rfl) <;> omega, by rw [z1]; refine lt _ rfl ?_; simp only [List.mem_cons, List.not_mem_nil, or_false]; rintro i (rfl | rfl | rfl | rfl | rfl | rfl | rfl | rfl) <;> omega, by rw [u1]; refine lt _ rfl ?_; simp only [List.mem_cons, List.not_mem_nil, or_false]; rintro i (rfl | rfl | rfl | rfl | rfl | rfl | rfl | rfl) <;> omega⟩
  clear u1 lt
  rw [z2, z1]
  show ((a + b + (c + d)) + 256 * valB _ + ((e + f + (g + h)) + 256 * valB _)) % 128 = _
  generalize valB [b + c + (d + e), c + d + (e + f), d + e + (f + g), e + f + (g + h), f + g + (h + 0), g + h + 0, h + 0 + 0] = u
  generalize valB [f + g + (h + 0), g + h + 0, h + 0 + 0] = v
  clear hx hy hz x2 y1 y2 z1 z2
  omega
/-- the count of math/bits -/
theorem ones_count (x p q r s t : Nat) (hx : x < 18446744073709551616) (hp : p = (x / 2 &&& 6148914691236517205) + (x &&& 6148914691236517205)) (hq : q = (p / 4 &&& 3689348814741910323) + (p &&& 3689348814741910323))
    (hr : r = (q / 16 + q) &&& 1085102592571150095) (hs : s = r + r / 256) (ht : t = s + s / 65536) :
    (t + t / 4294967296) % 128 = (bitsOf x).length ∧ p < 18446744073709551616 ∧ q < 18446744073709551616 / 2 ∧ r < 18446744073709551616 ∧ s < 18446744073709551616 ∧ t < 18446744073709551616 ∧ t + t / 4294967296 < 18446744073709551616 := by
  obtain ⟨bs, hbs⟩ : ∃ bs, bs = bytesN x 8 := ⟨_, rfl⟩
  have hlen : bs.length = 8 := by rw [hbs]; exact bytesN_length _ _
  have hlt : ∀ b ∈ bs, b < 256 := by rw [hbs]; exact bytesN_lt _ _
  have hv : x = valB bs := by rw [hbs]; exact (bytesN_val 8 x (by simpa using hx)).symm
  have s1 := step1 bs hlt
  rw [hlen, ← hv] at s1
  have hp1 : p = valB (bs.map g1) := hp.trans s1
  have s2 := step2 (bs.map g1) (by simp only [List.mem_map]; rintro b ⟨c, hc, rfl⟩; exact (g1_all c (hlt c hc)).2.1)
  rw [List.length_map, hlen, ← hp1] at s2
  have hq1 : q = valB ((bs.map g1).map g2) := hq.trans s2
  have s3 := step3 ((bs.map g1).map g2) (by simp only [List.mem_map]; rintro b ⟨c, ⟨d, hd, rfl⟩, rfl⟩; exact g21_all d (hlt d hd))
  rw [List.length_map, List.length_map, hlen, ← hq1] at s3
  have hr1 : r = valB (((bs.map g1).map g2).map g3) := hr.trans s3
  have hm : ((bs.map g1).map g2).map g3 = bs.map popB := by
    rw [List.map_map, List.map_map]
    apply List.map_congr_left
    intro b hb
    exact (g321_all b (hlt b hb)).1
  rw [hm] at hr1
  have hcnt : (bitsOf x).length = (bs.map popB).sum := by rw [hbs]; exact popB_sum 8 x
  have hle : ∀ b ∈ bs, popB b ≤ 8 := fun b hb => (g321_all b (hlt b hb)).2
  have hpb : p < 18446744073709551616 := by
    have e1 : x / 2 &&& 6148914691236517205 ≤ 6148914691236517205 := Nat.and_le_right
    have e2 : x &&& 6148914691236517205 ≤ 6148914691236517205 := Nat.and_le_right
    omega
  have hqb : q < 18446744073709551616 / 2 := by
    have e1 : p / 4 &&& 3689348814741910323 ≤ 3689348814741910323 := Nat.and_le_right
    have e2 : p &&& 3689348814741910323 ≤ 3689348814741910323 := Nat.and_le_right
    omega
  clear hp hq hr s1 s2 s3 hp1 hq1 hm hbs hv
  match bs, hlen with
  | [a, b, c, d, e, f, g, h], _ =>
    simp only [List.map_cons, List.map_nil, List.mem_cons, List.not_mem_nil, or_false, forall_eq_or_imp, forall_eq] at hr1 hle hcnt
    obtain ⟨h1, h2, h3, h4, h5, h6, h7, h8⟩ := hle
    obtain ⟨k1, k2, k3, k4, k5⟩ := sum_tail _ _ _ _ _ _ _ _ h1 h2 h3 h4 h5 h6 h7 h8 r s t hr1 hs ht
    refine ⟨?_, hpb, hqb, k2, k3, k4, k5⟩
    rw [k1, hcnt]
    simp only [List.sum_cons, List.sum_nil]
    omega

end Go.Proofs.YtaeelanbkdkppaaDoor

/-
  Slices of any kind of plain element in memory: reading one, owning one, append, make. Over a seat's own program.
-/
namespace Go.Proofs.YtaeelanbkdkppaaDoor
open Go.RowKit

theorem ret_bool {a b : Bool} (h : a = b) : Ending.returned (.bool a) = .returned (.bool b) := by rw [h]
theorem ret_int {k : IntKind} {a b : Int} (h : a = b) : Ending.returned (.int k a) = .returned (.int k b) := by rw [h]
theorem below_draws {B : Nat} {a w : World} (h : Below B a w) (n : Nat) : Below B a (w.drewN n) := ⟨h.os, h.tape, h.output, h.size, h.block⟩
theorem addr_plain (b off j : Nat) : (⟨b, off, none⟩ : Addr).add j = ⟨b, off + j, none⟩ := Addr.add_lit _ _ _
theorem cell_new (w : World) (u : Value) (t : TypeId) : (w.alloc (.cells #[u] t)).cell? ⟨w.heap.size, 0, none⟩ = some u := by simp
theorem slice_of {w : World} {base : Nat} {e : TypeId} {size : Nat} {v : Value} {n : Nat} {xs : List Value} (h : w.ownsRow base e size v n xs) : ∃ ao cap, v = .slice ao n cap := by
  rcases h.2 with ⟨hv, h0⟩ | ⟨g, cap, cur, hv, _⟩
  · exact ⟨none, 0, by rw [hv, h0]⟩
  · exact ⟨_, _, hv⟩
theorem grown_trans {a b c : World} {r : Option Nat} (h : a.grownBy b r) (k : b.grownBy c r) : a.grownBy c r :=
  ⟨k.os.trans h.os, k.tape.trans h.tape, k.output.trans h.output, Nat.le_trans h.size k.size, fun i hi hr => (k.block i (Nat.lt_of_lt_of_le hi h.size) hr).trans (h.block i hi hr)⟩
theorem grown_refl (a : World) (r : Option Nat) : a.grownBy a r := ⟨rfl, rfl, rfl, Nat.le_refl _, fun _ _ _ => rfl⟩
theorem grown_drew {a b : World} {r : Option Nat} (h : a.grownBy b r) : a.grownBy b.drew r := ⟨h.os, h.tape, h.output, h.size, h.block⟩
theorem heap_two (w : World) (o o2 : Obj) : ((w.alloc o).alloc o2).heap[w.heap.size]? = some o :=
  (Below.heap_alloc (w.alloc o) o2 w.heap.size (by simp)).trans (heap_alloc_new w o)
theorem heap_two' (w : World) (o o2 : Obj) : ((w.alloc o).alloc o2).heap[w.heap.size + 1]? = some o2 := by
  have := heap_alloc_new (w.alloc o) o2
  simpa using this

/-- how an element lies in cells -/
structure El (α : Type) where
  enc : α → List Value
  size : Nat
  len : ∀ x, (enc x).length = size
  one : ∀ x, ∀ u ∈ enc x, u.oneCell' = true

section
variable {α : Type} (E : El α)
def cellsE (xs : List α) : List Value := xs.flatMap E.enc
theorem cellsE_length (xs : List α) : (cellsE E xs).length = xs.length * E.size := by
  induction xs with
  | nil => simp [cellsE]
  | cons x r ih =>
    have : cellsE E (x :: r) = E.enc x ++ cellsE E r := rfl
    rw [this, List.length_append, ih, E.len, List.length_cons, Nat.succ_mul]
    omega
theorem cellsE_snoc (xs : List α) (x : α) : cellsE E (xs ++ [x]) = cellsE E xs ++ E.enc x := by simp [cellsE]
theorem cellsE_get {xs : List α} {i : Nat} {x : α} (h : xs[i]? = some x) {j : Nat} {u : Value} (hu : (E.enc x)[j]? = some u) : (cellsE E xs)[i * E.size + j]? = some u := by
  induction xs generalizing i with
  | nil => simp at h
  | cons y r ih =>
    have e : cellsE E (y :: r) = E.enc y ++ cellsE E r := rfl
    rw [e]
    cases i with
    | zero =>
      simp at h
      subst h
      have hj : j < (E.enc y).length := by
        rcases Nat.lt_or_ge j (E.enc y).length with h1 | h1
        · exact h1
        · rw [List.getElem?_eq_none h1] at hu; cases hu
      rw [Nat.zero_mul, Nat.zero_add, List.getElem?_append_left hj]
      exact hu
    | succ i =>
      rw [List.getElem?_append_right (by rw [E.len, Nat.succ_mul]; omega), E.len, show (i + 1) * E.size + j - E.size = i * E.size + j by rw [Nat.succ_mul]; omega]
      exact ih (by simpa using h)
theorem cellsE_one (xs : List α) : ∀ u ∈ cellsE E xs, u.oneCell' = true := by
  intro u hu
  simp only [cellsE, List.mem_flatMap] at hu
  obtain ⟨x, _, h⟩ := hu
  exact E.one x u h

/-- the slice at A reads as xs, in a block below B -/
def Reads (w : World) (B : Nat) (A : Option Addr) (xs : List α) : Prop :=
  xs = [] ∨ ∃ b off, A = some ⟨b, off, none⟩ ∧ b < B ∧ ∀ i x, xs[i]? = some x → ∀ j u, (E.enc x)[j]? = some u → w.cell? ⟨b, off + i * E.size + j, none⟩ = some u
/-- a slice that a call made -/
def OwnE (t : TypeId) (w : World) (base : Nat) (v : Value) (xs : List α) : Prop := w.ownsRow base t E.size v xs.length (cellsE E xs)
end

section
variable {α : Type} {E : El α}
theorem Reads.at {w : World} {B : Nat} {A : Option Addr} {xs : List α} (h : Reads E w B A xs) {k : Nat} (hk : k < xs.length) :
    ∃ b off, A = some ⟨b, off, none⟩ ∧ b < B ∧ ∀ i (hi : i < xs.length), ∀ j u, (E.enc xs[i])[j]? = some u → w.cell? ⟨b, off + i * E.size + j, none⟩ = some u := by
  rcases h with h | ⟨b, off, h1, h2, h3⟩
  · subst h; simp at hk
  · exact ⟨b, off, h1, h2, fun i hi j u hu => h3 i xs[i] (List.getElem?_eq_getElem hi) j u hu⟩
theorem Reads.below {w w' : World} {B : Nat} {A : Option Addr} {xs : List α} (h : Reads E w B A xs) (hb : Below B w w') : Reads E w' B A xs := by
  rcases h with h | ⟨b, off, h1, h2, h3⟩
  · exact .inl h
  · exact .inr ⟨b, off, h1, h2, fun i x hx j u hu => (hb.cell (p := ⟨b, off + i * E.size + j, none⟩) h2).trans (h3 i x hx j u hu)⟩
theorem Reads.mono {w : World} {B B' : Nat} {A : Option Addr} {xs : List α} (h : Reads E w B A xs) (hb : B ≤ B') : Reads E w B' A xs := by
  rcases h with h | ⟨b, off, h1, h2, h3⟩
  · exact .inl h
  · exact .inr ⟨b, off, h1, by omega, h3⟩
theorem Reads.up {w w' : World} {A : Option Addr} {xs : List α} (h : Reads E w w.heap.size A xs) (hb : Below w.heap.size w w') : Reads E w' w'.heap.size A xs := (h.below hb).mono hb.size
theorem Reads.take {w : World} {B : Nat} {A : Option Addr} {xs : List α} (h : Reads E w B A xs) (k : Nat) : Reads E w B A (xs.take k) := by
  rcases h with h | ⟨b, off, h1, h2, h3⟩
  · exact .inl (by rw [h]; simp)
  · refine .inr ⟨b, off, h1, h2, fun i x hx => h3 i x ?_⟩
    rw [List.getElem?_take] at hx
    split at hx
    · exact hx
    · cases hx

theorem OwnE.nil (t : TypeId) (w : World) (base : Nat) : OwnE E t w base (.slice none 0 0) [] := by
  have := World.ownsRow_nil w base t E.size
  exact this
theorem OwnE.slice {t : TypeId} {w : World} {base : Nat} {v : Value} {xs : List α} (h : OwnE E t w base v xs) : ∃ ao cap, v = .slice ao xs.length cap := slice_of h
theorem OwnE.cast {t : TypeId} {w : World} {base : Nat} {v : Value} {xs ys : List α} (e : xs = ys) (h : OwnE E t w base v xs) : OwnE E t w base v ys := e ▸ h
theorem OwnE.mono {t : TypeId} {w : World} {base base' : Nat} {v : Value} {xs : List α} (h : OwnE E t w base v xs) (hb : base' ≤ base) : OwnE E t w base' v xs := by
  refine ⟨h.1, ?_⟩
  rcases h.2 with hn | ⟨g, cap, cur, hv, hg, r⟩
  · exact .inl hn
  · exact .inr ⟨g, cap, cur, hv, Nat.le_trans hb hg, r⟩
theorem OwnE.below {t : TypeId} {w w' : World} {base B : Nat} {v : Value} {xs : List α} (h : OwnE E t w base v xs) (hb : Below B w w') (hB : w.heap.size ≤ B) : OwnE E t w' base v xs := by
  refine ⟨h.1, ?_⟩
  rcases h.2 with hn | ⟨g, cap, cur, hv, hbg, hg, rest⟩
  · exact .inl hn
  · exact .inr ⟨g, cap, cur, hv, hbg, by rw [hb.block g (Nat.lt_of_lt_of_le (World.ownsRow.lt h g (by rw [hv]; rfl)).2 hB)]; exact hg, rest⟩
theorem OwnE.alloc {t : TypeId} {w : World} {base : Nat} {v : Value} {xs : List α} (h : OwnE E t w base v xs) (o : Obj) : OwnE E t (w.alloc o) base v xs := World.ownsRow.alloc h o
theorem OwnE.kept {t : TypeId} {w w' : World} {base : Nat} {v : Value} {xs : List α} {row : Option Nat} (h : OwnE E t w base v xs) (hg : w.grownBy w' row) (hne : v.ownBlock = none ∨ v.ownBlock ≠ row) : OwnE E t w' base v xs := World.ownsRow.kept h hg hne
theorem OwnE.lt {t : TypeId} {w : World} {base : Nat} {v : Value} {xs : List α} (h : OwnE E t w base v xs) : ∀ k, v.ownBlock = some k → base ≤ k ∧ k < w.heap.size := World.ownsRow.lt h
theorem OwnE.pos {t : TypeId} {w : World} {base : Nat} {v : Value} {xs : List α} (h : OwnE E t w base v xs) (hp : 0 < xs.length) : ∃ g c, v = .slice (some ⟨g, 0, none⟩) xs.length c ∧ base ≤ g ∧ g < w.heap.size := by
  rcases h.2 with ⟨_, hn⟩ | ⟨g, cap, cur, hv, hb, hg, _⟩
  · omega
  · exact ⟨g, cap, hv, hb, (Array.getElem?_eq_some_iff.1 hg).1⟩
theorem OwnE.reads {t : TypeId} {w : World} {base : Nat} {v : Value} {xs : List α} (h : OwnE E t w base v xs) : ∃ A c, v = .slice A xs.length c ∧ Reads E w w.heap.size A xs := by
  rcases h.2 with ⟨hv, hn⟩ | ⟨g, cap, cur, hv, hb, hg, _⟩
  · exact ⟨none, 0, by rw [hv, hn], .inl (List.eq_nil_of_length_eq_zero hn)⟩
  · refine ⟨_, cap, hv, .inr ⟨g, 0, rfl, (Array.getElem?_eq_some_iff.1 hg).1, fun i x hx j u hu => ?_⟩⟩
    have := World.ownsRow.cells h (g := g) (by rw [hv]; rfl) _ _ (cellsE_get E hx hu)
    rw [addr_plain] at this
    rw [← this]
    congr 2
    omega
/-- two rows of different types lie in different blocks -/
theorem own_apart {β : Type} {G : El β} {t t' : TypeId} {w : World} {base base' : Nat} {u v : Value} {xs : List α} {ys : List β} (hne : t ≠ t') (hu : OwnE E t w base u xs) (hv : OwnE G t' w base' v ys) : u.ownBlock = none ∨ u.ownBlock ≠ v.ownBlock := by
  rcases hu.2 with ⟨e, _⟩ | ⟨g, cap, cur, e, _, hg, _⟩
  · left; rw [e]; rfl
  · right
    rcases hv.2 with ⟨e', _⟩ | ⟨g', cap', cur', e', _, hg', _⟩
    · rw [e, e']; simp [Value.ownBlock]
    · rw [e, e']
      simp only [Value.ownBlock]
      intro he
      injection he with he
      rw [he, hg'] at hg
      simp only [Option.some.injEq, Obj.cells.injEq] at hg
      exact hne hg.2.1.symm

/-- a new block's cells -/
theorem news_of {w : World} {g : Nat} {cs : Array Value} {t : TypeId} {x : α} (h : w.heap[g]? = some (.cells cs t (0, 0))) (hc : cs.toList = E.enc x) : ∀ j u, (E.enc x)[j]? = some u → w.cell? ((⟨g, 0, none⟩ : Addr).add j) = some u := by
  intro j u hu
  rw [addr_plain, Nat.zero_add, cell_of_row w g j cs t (0, 0) h, ← Array.getElem?_toList, hc]
  exact hu

theorem wpList_append_E {w : World} {ops : Array Oper} {rest : List Oper} {o : Oper} {a : Act} {Q : Exit → Act → World → Prop} (hgd : o.guard = none) (s x : Operand) (T t : TypeId)
    (ho : o.op = .call { callee := .builtin .append, args := #[s, x], argTypes := #[T, T] }) {z : Value} {bytes : Nat}
    (hT : Tryd.prog.underlying T = some (.slice t)) (hinfo : (Tryd.prog.info? t).map (fun i => (i.zero, i.size, i.bytes)) = some (some z, E.size, bytes)) (hzc : z.cells.size = E.size) (hpos : 0 < E.size) (hby : bytes ≤ 1000)
    (base : Nat) (v : Value) (xs : List α) (hs : a.eval s = v) (hown : OwnE E t w base v xs) (ad : Addr) (c : Nat) (m : α) (hx : a.eval x = .slice (some ad) 1 c)
    (hc : ∀ j u, (E.enc m)[j]? = some u → w.cell? (ad.add j) = some u) (hl : xs.length ≤ 1000000) (hbase : base ≤ w.heap.size)
    (hK : ∀ v' w', OwnE E t w' base v' (xs ++ [m]) → w.grownBy w' v.ownBlock → Below base w w' → wpList Tryd.prog ops Q rest (a.put o.dst v') w') : wpList Tryd.prog ops Q (o :: rest) a w := by
  obtain ⟨i0, hi, hz0, hz1, hz2⟩ := info_parts hinfo
  have hb : (xs.length + 1) * bytes ≤ 1000001 * 1000 := Nat.mul_le_mul (by omega) hby
  refine wpList_append_own w hgd s x T ho base t i0 z E.size bytes hT hi hz0 hz1 hz2 hzc hpos v xs.length (cellsE E xs) hs hown ad 1 c (E.enc m) hx (by rw [E.len]; omega) hc (E.one m) (by unfold maxLen; omega) (by omega) hbase ?_
  intro v' w' h1 h2 _
  refine hK v' w' ?_ h2 ((Below.refl base w).grown h2 hbase (fun k hk => (hown.lt k hk).1))
  unfold OwnE
  rw [cellsE_snoc, List.length_append]
  exact h1
end

/-! ints -/
def EInt : El Int := ⟨fun n => [.int .i64 n], 1, fun _ => rfl, fun x u hu => by simp at hu; subst hu; rfl⟩
theorem infoInt : (Tryd.prog.info? 3).map (fun i => (i.zero, i.size, i.bytes)) = some (some (.int .i64 0), 1, 8) := by kernel_rfl
abbrev Ints (w : World) (B : Nat) (A : Option Addr) (xs : List Int) : Prop := Reads EInt w B A xs
abbrev OwnI (w : World) (base : Nat) (v : Value) (xs : List Int) : Prop := OwnE EInt 3 w base v xs
theorem cellsE_int (xs : List Int) : cellsE EInt xs = xs.map (Value.int .i64) := by
  induction xs with
  | nil => rfl
  | cons x r ih =>
    have : cellsE EInt (x :: r) = .int .i64 x :: cellsE EInt r := rfl
    rw [this, ih]; rfl
theorem Ints.cells {w : World} {B : Nat} {A : Option Addr} {xs : List Int} (h : Ints w B A xs) {k : Nat} (hk : k < xs.length) :
    ∃ b off, A = some ⟨b, off, none⟩ ∧ b < B ∧ ∀ i, i < xs.length → w.cell? ⟨b, off + i, none⟩ = some (.int .i64 (xs.getD i 0)) := by
  obtain ⟨b, off, h1, h2, h3⟩ := Reads.at h hk
  refine ⟨b, off, h1, h2, fun i hi => ?_⟩
  have := h3 i hi 0 (.int .i64 xs[i]) rfl
  have e : EInt.size = 1 := rfl
  rw [e, Nat.mul_one, Nat.add_zero] at this
  rw [this]
  simp [List.getD, hi]
theorem OwnI.cell {w : World} {base g c n : Nat} {xs : List Int} (hn : n = xs.length) (h : OwnI w base (.slice (some ⟨g, 0, none⟩) n c) xs) {j : Nat} (hj : j < n) : w.cell? ⟨g, j, none⟩ = some (.int .i64 (xs.getD j 0)) := by
  subst hn
  obtain ⟨A, c', e, hR⟩ := OwnE.reads h
  simp only [Value.slice.injEq] at e
  obtain ⟨b, off, e1, _, h3⟩ := Ints.cells hR hj
  rw [← e.1] at e1
  injection e1 with e1
  injection e1 with e2 e3 _
  subst e2 e3
  have := h3 j hj
  rwa [Nat.zero_add] at this
theorem OwnI.free {w : World} {base g c n : Nat} {xs : List Int} (hn : n = xs.length) (h : OwnI w base (.slice (some ⟨g, 0, none⟩) n c) xs) (j : Nat) : w.frozen? ⟨g, j, none⟩ = false := by
  subst hn
  exact World.ownsRow.frozenAt h j
theorem OwnI.set {w : World} {base g c n : Nat} {xs : List Int} (hn : n = xs.length) (h : OwnI w base (.slice (some ⟨g, 0, none⟩) n c) xs) (j : Nat) (m : Int) :
    OwnI (w.setCell ⟨g, j, none⟩ (.int .i64 m)) base (.slice (some ⟨g, 0, none⟩) n c) (xs.set j m) ∧ w.grownBy (w.setCell ⟨g, j, none⟩ (.int .i64 m)) (some g) := by
  subst hn
  have := World.ownsRow.stored h j (.int .i64 m)
  refine ⟨?_, this.2⟩
  have e : (xs.set j m).length = xs.length := by simp
  unfold OwnI OwnE
  rw [e, cellsE_int, List.map_set, ← cellsE_int]
  exact this.1

/-- append of one int -/
theorem wpList_append_int {w : World} {ops : Array Oper} {rest : List Oper} {o : Oper} {a : Act} {Q : Exit → Act → World → Prop} (hgd : o.guard = none) (s x : Operand)
    (ho : o.op = .call { callee := .builtin .append, args := #[s, x], argTypes := #[22, 22] })
    (base : Nat) (v : Value) (xs : List Int) (hs : a.eval s = v) (hown : OwnI w base v xs) (g c : Nat) (m : Int) (hx : a.eval x = .slice (some ⟨g, 0, none⟩) 1 c)
    (hc : w.cell? ⟨g, 0, none⟩ = some (.int .i64 m)) (hl : xs.length ≤ 1000000) (hbase : base ≤ w.heap.size)
    (hK : ∀ v' w', OwnI w' base v' (xs ++ [m]) → w.grownBy w' v.ownBlock → Below base w w' → wpList Tryd.prog ops Q rest (a.put o.dst v') w') : wpList Tryd.prog ops Q (o :: rest) a w := by
  refine wpList_append_E (E := EInt) hgd s x 22 3 ho Tryd.underlying22 infoInt rfl (by decide) (by decide) base v xs hs hown ⟨g, 0, none⟩ c m hx ?_ hl hbase hK
  intro j u hj
  cases j with
  | zero => rw [addr_plain]; simp [EInt] at hj; subst hj; exact hc
  | succ j => simp [EInt] at hj

end Go.Proofs.YtaeelanbkdkppaaDoor

/-
  The program's counting and finding of bits.
-/
namespace Go.Proofs.YtaeelanbkdkppaaDoor
open Go.RowKit


/-- the library's table lies in its variable -/
def TabW (w : World) : Prop := ∀ j, j < 64 → w.cell? ⟨0, j, none⟩ = some (.int .u8 (Lib.deBruijn64tab.getD j 0))

theorem and_c (a c : Nat) (ha : a < 18446744073709551616) (hc : c < 18446744073709551616) : bits .and .u64 (a : Int) (c : Int) = ((a &&& c : Nat) : Int) := bits_and_u64_nat a c ha hc
theorem and_127 (z : Int) : bits .and .i64 z 127 = z % 128 := by
  have h2 : (BitVec.ofInt 64 (127 : Int)).toNat = 2 ^ 7 - 1 := by decide
  show IntKind.i64.wrap ((BitVec.ofInt 64 z &&& BitVec.ofInt 64 127).toNat : Int) = _
  rw [BitVec.toNat_and, h2, Nat.and_two_pow_sub_one_eq_mod, BitVec.toNat_ofInt, IntKind.wrap_i64]
  omega
theorem wrap_127 (u n : Nat) (h : n = u % 128) : bits .and .i64 (wrap64 (u : Int)) 127 = (n : Int) := by
  rw [and_127, h]
  unfold wrap64
  omega
theorem wrap_nat (a : Nat) (h : a < 18446744073709551616) : IntKind.u64.wrap (a : Int) = (a : Int) := by rw [IntKind.wrap_u64]; omega
set_option maxHeartbeats 1000000 in
theorem ones_any (x : Nat) (hx : x < 18446744073709551616) (w : World) : Calls Tryd.prog 121 #[.int .u64 x] w fun e w' => e = .returned (.int .i64 ((bitsOf x).length : Int)) ∧ w = w' := by
  obtain ⟨p, hp⟩ : ∃ p, p = (x / 2 &&& 6148914691236517205) + (x &&& 6148914691236517205) := ⟨_, rfl⟩
  obtain ⟨q, hq⟩ : ∃ q, q = (p / 4 &&& 3689348814741910323) + (p &&& 3689348814741910323) := ⟨_, rfl⟩
  obtain ⟨r, hr⟩ : ∃ r, r = (q / 16 + q) &&& 1085102592571150095 := ⟨_, rfl⟩
  obtain ⟨s, hs⟩ : ∃ s, s = r + r / 256 := ⟨_, rfl⟩
  obtain ⟨t, ht⟩ : ∃ t, t = s + s / 65536 := ⟨_, rfl⟩
  obtain ⟨h0, h1, h2, h3, h4, h5, h6⟩ := ones_count x p q r s t hx hp hq hr hs ht
  have k1 : IntKind.u64.wrap (bits BinOp.and IntKind.u64 ((x : Int) / 2) 6148914691236517205 + bits BinOp.and IntKind.u64 (x : Int) 6148914691236517205) = (p : Int) := by
    have a1 : bits BinOp.and IntKind.u64 ((x : Int) / 2) 6148914691236517205 = ((x / 2 &&& 6148914691236517205 : Nat) : Int) := and_c (x / 2) 6148914691236517205 (by omega) (by omega)
    have a2 : bits BinOp.and IntKind.u64 (x : Int) 6148914691236517205 = ((x &&& 6148914691236517205 : Nat) : Int) := and_c x 6148914691236517205 hx (by omega)
    have a3 := wrap_nat p h1
    rw [a1, a2, ← Int.natCast_add, ← hp, a3]
  have k2 : IntKind.u64.wrap (bits BinOp.and IntKind.u64 ((p : Int) / 4) 3689348814741910323 + bits BinOp.and IntKind.u64 (p : Int) 3689348814741910323) = (q : Int) := by
    have a1 : bits BinOp.and IntKind.u64 ((p : Int) / 4) 3689348814741910323 = ((p / 4 &&& 3689348814741910323 : Nat) : Int) := and_c (p / 4) 3689348814741910323 (by omega) (by omega)
    have a2 : bits BinOp.and IntKind.u64 (p : Int) 3689348814741910323 = ((p &&& 3689348814741910323 : Nat) : Int) := and_c p 3689348814741910323 h1 (by omega)
    have a3 := wrap_nat q (by omega)
    rw [a1, a2, ← Int.natCast_add, ← hq, a3]
  have k3 : bits BinOp.and IntKind.u64 (IntKind.u64.wrap ((q : Int) / 16 + (q : Int))) 1085102592571150095 = (r : Int) := by
    have a1 := and_c (q / 16 + q) 1085102592571150095 (by omega) (by omega)
    have a3 := wrap_nat (q / 16 + q) (by omega)
    rw [show ((q / 16 + q : Nat) : Int) = (q : Int) / 16 + (q : Int) from rfl] at a1 a3
    rw [a3]
    refine a1.trans ?_
    rw [hr]
  have k4 : IntKind.u64.wrap ((r : Int) + (r : Int) / 256) = (s : Int) := by
    rw [IntKind.wrap_u64]; omega
  have k5 : IntKind.u64.wrap ((s : Int) + (s : Int) / 65536) = (t : Int) := by
    rw [IntKind.wrap_u64]; omega
  obtain ⟨u, hu⟩ : ∃ u, u = t + t / 4294967296 := ⟨_, rfl⟩
  have k6 : IntKind.u64.wrap ((t : Int) + (t : Int) / 4294967296) = (u : Int) := by
    rw [IntKind.wrap_u64]; omega
  have H : Hid ((bitsOf x).length = u % 128) := Lib.hid (by rw [hu]; exact h0.symm)
  clear h0 h1 h2 h3 h4 h5 h6 hp hq hr hs ht hu hx
  generalize (bitsOf x).length = n at H ⊢
  go_enter Tryd.func121, Tryd.ntmps121
  go_wp2
  go_ret
  exact ⟨ret_int (wrap_127 u n H.out), rfl⟩
set_option maxHeartbeats 1000000 in
theorem tz_any (x : Nat) (hx : x < 18446744073709551616) (h0 : x ≠ 0) (w : World) (hT : TabW w) : Calls Tryd.prog 100 #[.int .u64 x] w fun e w' => e = .returned (.int .i64 (Lib.ctz 64 x : Int)) ∧ w = w' := by
  have hx0 : ((x : Int) == 0) = false := by simp; omega
  obtain ⟨hlow, hk⟩ := Lib.lowest_bit 64 x h0 hx
  obtain ⟨hi, htab⟩ := Lib.deBruijn64_at _ hk
  have hcell := hT _ hi
  rw [htab] at hcell
  have key := tz64_key x _ hx h0 hlow
  clear hlow htab hT
  generalize Lib.ctz 64 x = k at *
  generalize 2 ^ k * 285870213051353865 % 18446744073709551616 / 288230376151711744 = idx at *
  have i0 : (0 : Int) ≤ (idx : Int) := by omega
  have i1 : (idx : Int) < 64 := by omega
  have i2 : ((idx : Int)).toNat = idx := by omega
  go_enter Tryd.func100, Tryd.ntmps100
  go_wp2_with (simp only [key])
  go_ret
  exact ⟨rfl, rfl⟩

theorem size_any (x : Nat) (hx : x < 18446744073709551616) (w : World) : Calls Tryd.prog 114 #[.int .u64 x] w fun e w' => e = .returned (.int .i64 ((bitsOf x).length : Int)) ∧ w = w' := by
  have H := Lib.hid (ones_any x hx w)
  generalize (bitsOf x).length = n at H ⊢
  go_enter Tryd.func114, Tryd.ntmps114
  go_wp2_with (go_at_call 121; refine H.out.mono ?_; rintro e w' ⟨rfl, rfl⟩)
  go_ret
  exact ⟨rfl, rfl⟩
/-- a set of several nodes -/
def openB (x : Nat) : Bool := decide (1 < (bitsOf x).length)
theorem isOpen_any (x : Nat) (hx : x < 18446744073709551616) (w : World) : Calls Tryd.prog 97 #[.int .u64 x] w fun e w' => e = .returned (.bool (openB x)) ∧ w = w' := by
  have H := Lib.hid (size_any x hx w)
  unfold openB
  generalize (bitsOf x).length = n at H ⊢
  go_enter Tryd.func97, Tryd.ntmps97
  go_wp2_with (go_at_call 114; refine H.out.mono ?_; rintro e w' ⟨rfl, rfl⟩)
  go_ret
  exact ⟨ret_bool (decide_eq_decide.2 (by omega)), rfl⟩

end Go.Proofs.YtaeelanbkdkppaaDoor

/-
  Graphs as plain data: what the document's words say, without the program.
-/
namespace Go.Proofs.YtaeelanbkdkppaaDoor

structure Ed where
  ty : Int
  fr : Int
  tq : Int
deriving DecidableEq
instance : Inhabited Ed := ⟨⟨0, 0, 0⟩⟩
structure Gr where
  ns : List Int
  es : List Ed
deriving DecidableEq
structure Mo where
  ns : List Int
  es : List Int
deriving DecidableEq
instance : Inhabited Mo := ⟨⟨[], []⟩⟩

/-! lists that grow round by round -/
section
variable {β : Type}
def coll (f : Nat → List β) : Nat → List β
  | 0 => []
  | k + 1 => coll f k ++ f k
theorem coll_ext {f g : Nat → List β} {k : Nat} (h : ∀ i, i < k → f i = g i) : coll f k = coll g k := by
  induction k with
  | zero => rfl
  | succ k ih => simp only [coll]; rw [ih fun i hi => h i (by omega), h k (by omega)]
theorem coll_le {f : Nat → List β} (h : ∀ i, (f i).length ≤ 1) (k : Nat) : (coll f k).length ≤ k := by
  induction k with
  | zero => exact Nat.le_refl _
  | succ k ih => simp only [coll, List.length_append]; have := h k; omega
theorem coll_len (h : Nat → β) (k : Nat) : (coll (fun i => [h i]) k).length = k := by
  induction k with
  | zero => rfl
  | succ k ih => simp only [coll, List.length_append, ih, List.length_singleton]
theorem coll_get (h : Nat → β) {i k : Nat} (hi : i < k) : (coll (fun i => [h i]) k)[i]? = some (h i) := by
  induction k with
  | zero => omega
  | succ k ih =>
    simp only [coll]
    by_cases e : i < k
    · rw [List.getElem?_append_left (by rw [coll_len]; exact e)]; exact ih e
    · have : i = k := by omega
      subst this
      rw [List.getElem?_append_right (by rw [coll_len]; exact Nat.le_refl _), coll_len, Nat.sub_self]; rfl
theorem coll_getD (h : Nat → β) {i k : Nat} (hi : i < k) (d : β) : (coll (fun i => [h i]) k).getD i d = h i := by
  rw [List.getD_eq_getElem?_getD, coll_get h hi]; rfl
theorem coll_self (l : List β) (d : β) : coll (fun i => [l.getD i d]) l.length = l := by
  apply List.ext_getElem?
  intro i
  by_cases h : i < l.length
  · rw [coll_get _ h, List.getD_eq_getElem?_getD, List.getElem?_eq_getElem h]; rfl
  · rw [List.getElem?_eq_none (by rw [coll_len]; omega), List.getElem?_eq_none (by omega)]
theorem coll_map {γ : Type} (q : β → γ) (f : Nat → List β) (k : Nat) : (coll f k).map q = coll (fun i => (f i).map q) k := by
  induction k with
  | zero => rfl
  | succ k ih => simp only [coll, List.map_append, ih]
theorem coll_add (f : Nat → List β) (k d : Nat) : coll f (k + d) = coll f k ++ coll (fun i => f (k + i)) d := by
  induction d with
  | zero => simp [coll]
  | succ d ih => rw [Nat.add_succ]; simp only [coll]; rw [ih, List.append_assoc]
theorem coll_nil (f : Nat → List β) {k : Nat} (h : ∀ i, i < k → f i = []) : coll f k = [] := by
  induction k with
  | zero => rfl
  | succ k ih => simp only [coll]; rw [ih fun i hi => h i (by omega), h k (by omega)]; rfl
theorem coll_mem {f : Nat → List β} {k : Nat} {x : β} : x ∈ coll f k ↔ ∃ i, i < k ∧ x ∈ f i := by
  induction k with
  | zero => simp [coll]
  | succ k ih =>
    simp only [coll, List.mem_append, ih]
    constructor
    · rintro (⟨i, h1, h2⟩ | h)
      · exact ⟨i, by omega, h2⟩
      · exact ⟨k, by omega, h⟩
    · rintro ⟨i, h1, h2⟩
      by_cases e : i = k
      · subst e; exact .inr h2
      · exact .inl ⟨i, by omega, h2⟩
/-- the first k places are written, the others hold z -/
def pad (f : Nat → β) (z : β) (n k : Nat) : List β := coll (fun i => [f i]) k ++ List.replicate (n - k) z
theorem pad_len (f : Nat → β) (z : β) {n k : Nat} (h : k ≤ n) : (pad f z n k).length = n := by simp [pad, coll_len]; omega
theorem pad_zero (f : Nat → β) (z : β) (n : Nat) : pad f z n 0 = List.replicate n z := by simp [pad, coll]
theorem pad_all (f : Nat → β) (z : β) (n : Nat) : pad f z n n = coll (fun i => [f i]) n := by simp [pad]
theorem pad_set (f : Nat → β) (z : β) {n k : Nat} (h : k < n) : (pad f z n k).set k (f k) = pad f z n (k + 1) := by
  unfold pad
  rw [List.set_append_right _ _ (by rw [coll_len]; exact Nat.le_refl _), coll_len, Nat.sub_self]
  obtain ⟨m, hm⟩ : ∃ m, n - k = m + 1 := ⟨n - k - 1, by omega⟩
  rw [hm, show n - (k + 1) = m by omega, List.replicate_succ, List.set_cons_zero]
  simp [coll]
end

/-! the first error -/
def fstN (f : Nat → Nat) : Nat → Nat → Nat
  | _, 0 => 0
  | k, d + 1 => if f k ≠ 0 then f k else fstN f (k + 1) d
theorem fstN_hit {f : Nat → Nat} {k n : Nat} (h : k < n) (hf : f k ≠ 0) : fstN f k (n - k) = f k := by
  obtain ⟨d, e⟩ : ∃ d, n - k = d + 1 := ⟨n - k - 1, by omega⟩
  rw [e]; simp only [fstN]; rw [if_pos hf]
theorem fstN_pass {f : Nat → Nat} {k n : Nat} (h : k < n) (hf : f k = 0) : fstN f k (n - k) = fstN f (k + 1) (n - (k + 1)) := by
  obtain ⟨d, e⟩ : ∃ d, n - k = d + 1 := ⟨n - k - 1, by omega⟩
  rw [e, show n - (k + 1) = d by omega]; simp only [fstN]; rw [if_neg (by omega)]
theorem fstN_end {f : Nat → Nat} {k n : Nat} (h : n ≤ k) : fstN f k (n - k) = 0 := by
  rw [show n - k = 0 by omega]; rfl
theorem fstN_zero {f : Nat → Nat} : ∀ {d k : Nat}, fstN f k d = 0 → ∀ i, k ≤ i → i < k + d → f i = 0 := by
  intro d
  induction d with
  | zero => intro k _ i h1 h2; omega
  | succ d ih =>
    intro k h i h1 h2
    simp only [fstN] at h
    split at h
    · omega
    · rename_i hf
      by_cases e : i = k
      · subst e; omega
      · exact ih h i (by omega) (by omega)
theorem fstN_all {f : Nat → Nat} : ∀ {d k : Nat}, (∀ i, k ≤ i → i < k + d → f i = 0) → fstN f k d = 0 := by
  intro d
  induction d with
  | zero => intro k _; rfl
  | succ d ih =>
    intro k h
    simp only [fstN]
    rw [if_neg (fun e => e (h k (Nat.le_refl _) (by omega)))]
    exact ih fun i h1 h2 => h i (by omega) (by omega)

/-! errors of graphs -/
def idxB (i : Int) (n : Nat) : Bool := decide (0 ≤ i) && decide (i < (n : Int))
theorem idxB_iff {i : Int} {n : Nat} : idxB i n = true ↔ 0 ≤ i ∧ i < n := by simp [idxB]
theorem idxB_not {i : Int} {n : Nat} : idxB i n = false ↔ i < 0 ∨ (n : Int) ≤ i := by
  rw [← Bool.not_eq_true, idxB_iff]; omega
def edB (x : Ed) (n : Nat) : Bool := idxB x.ty 100 && idxB x.fr n && idxB x.tq n
theorem edB_iff {x : Ed} {n : Nat} : edB x n = true ↔ (0 ≤ x.ty ∧ x.ty < 100) ∧ (0 ≤ x.fr ∧ x.fr < n) ∧ (0 ≤ x.tq ∧ x.tq < n) := by
  simp only [edB, Bool.and_eq_true, idxB_iff]; omega
def validE (g : Gr) : Nat := if 40 < g.ns.length ∨ 80 < g.es.length then 3 else if g.ns.all (idxB · 100) && g.es.all (edB · g.ns.length) then 0 else 6
theorem valid_long {g : Gr} (h : 40 < g.ns.length ∨ 80 < g.es.length) : validE g = 3 := if_pos h
theorem valid_node {g : Gr} (h1 : g.ns.length ≤ 40) (h2 : g.es.length ≤ 80) {i : Nat} (hi : i < g.ns.length) (h : idxB (g.ns.getD i 0) 100 = false) : validE g = 6 := by
  unfold validE
  rw [if_neg (by omega), if_neg]
  intro hc
  rw [Bool.and_eq_true, List.all_eq_true] at hc
  have := hc.1 (g.ns.getD i 0) (by rw [List.getD_eq_getElem?_getD, List.getElem?_eq_getElem hi]; exact List.getElem_mem hi)
  rw [h] at this; cases this
theorem valid_edge {g : Gr} (h1 : g.ns.length ≤ 40) (h2 : g.es.length ≤ 80) {i : Nat} (hi : i < g.es.length) (h : edB (g.es.getD i default) g.ns.length = false) : validE g = 6 := by
  unfold validE
  rw [if_neg (by omega), if_neg]
  intro hc
  rw [Bool.and_eq_true, List.all_eq_true, List.all_eq_true] at hc
  have := hc.2 (g.es.getD i default) (by rw [List.getD_eq_getElem?_getD, List.getElem?_eq_getElem hi]; exact List.getElem_mem hi)
  rw [h] at this; cases this
theorem valid_ok {g : Gr} (h1 : g.ns.length ≤ 40) (h2 : g.es.length ≤ 80) (h3 : ∀ i, i < g.ns.length → idxB (g.ns.getD i 0) 100 = true) (h4 : ∀ i, i < g.es.length → edB (g.es.getD i default) g.ns.length = true) : validE g = 0 := by
  unfold validE
  rw [if_neg (by omega), if_pos]
  rw [Bool.and_eq_true, List.all_eq_true, List.all_eq_true]
  constructor
  · intro x hx
    obtain ⟨i, hi, rfl⟩ := List.mem_iff_getElem.1 hx
    have := h3 i hi
    rwa [List.getD_eq_getElem?_getD, List.getElem?_eq_getElem hi] at this
  · intro x hx
    obtain ⟨i, hi, rfl⟩ := List.mem_iff_getElem.1 hx
    have := h4 i hi
    rwa [List.getD_eq_getElem?_getD, List.getElem?_eq_getElem hi] at this
theorem valid_zero {g : Gr} (h : validE g = 0) : g.ns.length ≤ 40 ∧ g.es.length ≤ 80 ∧ (∀ x ∈ g.ns, 0 ≤ x ∧ x < 100) ∧ (∀ x ∈ g.es, edB x g.ns.length = true) := by
  unfold validE at h
  split at h
  · omega
  · split at h
    · rename_i h1 h2
      rw [Bool.and_eq_true, List.all_eq_true, List.all_eq_true] at h2
      exact ⟨by omega, by omega, fun x hx => idxB_iff.1 (h2.1 x hx), h2.2⟩
    · omega
theorem getD_mem {β : Type} {l : List β} {d : β} {i : Nat} (h : i < l.length) : l.getD i d ∈ l := by
  rw [List.getD_eq_getElem?_getD, List.getElem?_eq_getElem h]; exact List.getElem_mem h
theorem valid_at {g : Gr} (h : validE g = 0) {i : Nat} (hi : i < g.es.length) : (0 ≤ (g.es.getD i default).fr ∧ (g.es.getD i default).fr < g.ns.length) ∧ (0 ≤ (g.es.getD i default).tq ∧ (g.es.getD i default).tq < g.ns.length) :=
  (edB_iff.1 ((valid_zero h).2.2.2 _ (getD_mem hi))).2

/-- the ends of an edge -/
def frN (g : Gr) (i : Nat) : Nat := (g.es.getD i default).fr.toNat
def toN (g : Gr) (i : Nat) : Nat := (g.es.getD i default).tq.toNat

def noG : Gr := ⟨[], []⟩
def noM : Mo := ⟨[], []⟩
def addNE (g : Gr) (k : Int) : Nat := if validE g ≠ 0 then validE g else if idxB k 100 = false then 6 else if g.ns.length = 40 then 3 else 0
def addNG (g : Gr) (k : Int) : Gr := if addNE g k = 0 then ⟨g.ns ++ [k], g.es⟩ else noG
def addNI (g : Gr) (k : Int) : Nat := if addNE g k = 0 then g.ns.length else 0
def addEE (g : Gr) (x : Ed) : Nat := if validE g ≠ 0 then validE g else if edB x g.ns.length = false then 6 else if g.es.length = 80 then 3 else 0
def addEG (g : Gr) (x : Ed) : Gr := if addEE g x = 0 then ⟨g.ns, g.es ++ [x]⟩ else noG
def addEI (g : Gr) (x : Ed) : Nat := if addEE g x = 0 then g.es.length else 0

/-! Remove -/
def ascAt (l : List Int) (n k : Nat) : Nat := if idxB (l.getD k 0) n = false then 6 else if 0 < k ∧ l.getD k 0 ≤ l.getD (k - 1) 0 then 12 else 0
def ascE (l : List Int) (n : Nat) : Nat := fstN (ascAt l n) 0 l.length
def Asc (l : List Int) : Prop := l.Pairwise (· < ·)
theorem asc_of {l : List Int} (h : ∀ i, i + 1 < l.length → l.getD i 0 < l.getD (i + 1) 0) : Asc l := by
  induction l with
  | nil => exact List.Pairwise.nil
  | cons x r ih =>
    have hr : Asc r := ih fun i hi => by have := h (i + 1) (by simp; omega); simpa using this
    refine List.Pairwise.cons ?_ hr
    intro y hy
    cases r with
    | nil => simp at hy
    | cons z s =>
      have h0 : x < z := by have := h 0 (by simp); simpa using this
      rcases List.mem_cons.1 hy with rfl | hy
      · exact h0
      · have := List.rel_of_pairwise_cons hr hy; omega
theorem asc_zero {l : List Int} {n : Nat} (h : ascE l n = 0) : (∀ x ∈ l, 0 ≤ x ∧ x < n) ∧ Asc l := by
  have hz := fstN_zero h
  have hat : ∀ i, i < l.length → idxB (l.getD i 0) n = true ∧ ¬ (0 < i ∧ l.getD i 0 ≤ l.getD (i - 1) 0) := by
    intro i hi
    have := hz i (by omega) (by omega)
    unfold ascAt at this
    split at this
    · omega
    · split at this
      · omega
      · rename_i h1 h2; exact ⟨by simpa using h1, h2⟩
  constructor
  · intro x hx
    obtain ⟨i, hi, rfl⟩ := List.mem_iff_getElem.1 hx
    have := (hat i hi).1
    rw [List.getD_eq_getElem?_getD, List.getElem?_eq_getElem hi] at this
    exact idxB_iff.1 this
  · apply asc_of
    intro i hi
    have := (hat (i + 1) hi).2
    rw [Nat.add_sub_cancel] at this
    omega
theorem asc_mk {l : List Int} {n : Nat} (h1 : ∀ x ∈ l, 0 ≤ x ∧ x < n) (h2 : ∀ i, i + 1 < l.length → l.getD i 0 < l.getD (i + 1) 0) : ascE l n = 0 := by
  apply fstN_all
  intro i _ hi
  unfold ascAt
  rw [if_neg (by rw [idxB_iff.2 (h1 _ (getD_mem (by omega)))]; simp), if_neg]
  rintro ⟨h3, h4⟩
  have := h2 (i - 1) (by omega)
  rw [show i - 1 + 1 = i by omega] at this
  omega
def cntL (l : List Int) (i : Nat) : Nat := l.countP (fun x => decide (x < (i : Int)))
theorem cnt_zero {l : List Int} (h : ∀ x ∈ l, 0 ≤ x) : cntL l 0 = 0 := by
  unfold cntL
  rw [List.countP_eq_zero]
  intro x hx
  have := h x hx
  simp; omega
theorem cnt_none {l : List Int} {i : Nat} (h : ∀ x ∈ l, (i : Int) ≤ x) : cntL l i = 0 := by
  unfold cntL
  rw [List.countP_eq_zero]
  intro x hx
  have := h x hx
  simp; omega
theorem cnt_cons (x : Int) (r : List Int) (i : Nat) : cntL (x :: r) i = cntL r i + if x < (i : Int) then 1 else 0 := by
  unfold cntL
  rw [List.countP_cons]
  simp
theorem asc_at {l : List Int} (h : Asc l) (i : Nat) : l[cntL l i]? = some (i : Int) ↔ (i : Int) ∈ l := by
  induction l with
  | nil => simp
  | cons x r ih =>
    obtain ⟨h1, h2⟩ := List.pairwise_cons.1 h
    rw [cnt_cons]
    by_cases hx : x < (i : Int)
    · rw [if_pos hx, List.getElem?_cons_succ, ih h2, List.mem_cons]
      constructor
      · exact fun h => .inr h
      · rintro (h | h)
        · omega
        · exact h
    · rw [if_neg hx, Nat.add_zero, cnt_none fun y hy => by have := h1 y hy; omega, List.getElem?_cons_zero, List.mem_cons]
      constructor
      · intro h; injection h with h; exact .inl h.symm
      · rintro (h | h)
        · rw [h]
        · have := h1 _ h; omega
theorem cnt_succ {l : List Int} (h : Asc l) (i : Nat) : cntL l (i + 1) = cntL l i + if (i : Int) ∈ l then 1 else 0 := by
  induction l with
  | nil => simp [cntL]
  | cons x r ih =>
    obtain ⟨h1, h2⟩ := List.pairwise_cons.1 h
    rw [cnt_cons, cnt_cons, ih h2]
    by_cases hx : x = (i : Int)
    · subst hx
      have hn : ¬ (i : Int) ∈ r := fun hm => by have := h1 _ hm; omega
      rw [if_neg hn, if_pos (by omega), if_neg (by omega), if_pos (by simp)]
    · have em : ((i : Int) ∈ x :: r) ↔ (i : Int) ∈ r := by
        rw [List.mem_cons]
        exact ⟨fun h => h.elim (fun h => absurd h.symm hx) id, .inr⟩
      have ex : x < ((i + 1 : Nat) : Int) ↔ x < (i : Int) := by omega
      simp only [em, ex]
      exact Nat.add_right_comm _ _ _
theorem cnt_le {l : List Int} (h : Asc l) (h0 : ∀ x ∈ l, 0 ≤ x) (i : Nat) : cntL l i ≤ i := by
  induction i with
  | zero => rw [cnt_zero h0]; exact Nat.le_refl _
  | succ i ih => rw [cnt_succ h]; split <;> omega
theorem cnt_len (l : List Int) (i : Nat) : cntL l i ≤ l.length := List.countP_le_length

/-- where an element is without those of l: -1 if it is one of them -/
def plc (l : List Int) (i : Nat) : Int := if (i : Int) ∈ l then -1 else (i : Int) - cntL l i
theorem plc_in {l : List Int} {i : Nat} (h : (i : Int) ∈ l) : plc l i = -1 := if_pos h
theorem plc_out {l : List Int} {i : Nat} (h : ¬ (i : Int) ∈ l) : plc l i = (i : Int) - cntL l i := if_neg h
theorem plc_nonneg {l : List Int} (h : Asc l) (h0 : ∀ x ∈ l, 0 ≤ x) {i : Nat} : 0 ≤ plc l i ↔ ¬ (i : Int) ∈ l := by
  constructor
  · intro h1 h2; rw [plc_in h2] at h1; omega
  · intro h1; rw [plc_out h1]; have := cnt_le h h0 i; omega
def dangB (g : Gr) (vs xs : List Int) (i : Nat) : Bool := !decide ((i : Int) ∈ xs) && (decide ((g.es.getD i default).fr ∈ vs) || decide ((g.es.getD i default).tq ∈ vs))
def dangAt (g : Gr) (vs xs : List Int) (i : Nat) : Nat := if dangB g vs xs i then 14 else 0
def remE (g : Gr) (vs xs : List Int) : Nat := if validE g ≠ 0 then validE g else if ascE vs g.ns.length ≠ 0 then ascE vs g.ns.length else if ascE xs g.es.length ≠ 0 then ascE xs g.es.length else fstN (dangAt g vs xs) 0 g.es.length
def remNs (g : Gr) (vs : List Int) (k : Nat) : List Int := coll (fun i => if (i : Int) ∈ vs then [] else [g.ns.getD i 0]) k
def mvd (g : Gr) (vs : List Int) (i : Nat) : Ed := ⟨(g.es.getD i default).ty, plc vs (frN g i), plc vs (toN g i)⟩
def remEs (g : Gr) (vs xs : List Int) (k : Nat) : List Ed := coll (fun i => if (i : Int) ∈ xs then [] else [mvd g vs i]) k
def remG (g : Gr) (vs xs : List Int) : Gr := if remE g vs xs = 0 then ⟨remNs g vs g.ns.length, remEs g vs xs g.es.length⟩ else noG
def plcs (l : List Int) (n : Nat) : List Int := coll (fun i => [plc l i]) n
def remM (g : Gr) (vs xs : List Int) : Mo := if remE g vs xs = 0 then ⟨plcs vs g.ns.length, plcs xs g.es.length⟩ else noM
theorem rem_zero {g : Gr} {vs xs : List Int} (h : remE g vs xs = 0) : validE g = 0 ∧ ascE vs g.ns.length = 0 ∧ ascE xs g.es.length = 0 ∧ ∀ i, i < g.es.length → dangB g vs xs i = false := by
  unfold remE at h
  split at h
  · omega
  · split at h
    · omega
    · split at h
      · omega
      · rename_i h1 h2 h3
        refine ⟨by omega, by omega, by omega, fun i hi => ?_⟩
        have := fstN_zero h i (by omega) (by omega)
        unfold dangAt at this
        split at this
        · omega
        · rename_i h4; simpa using h4
/-- what is left of a list without some places -/
theorem left_at {β : Type} {l : List Int} (h : Asc l) (h0 : ∀ x ∈ l, 0 ≤ x) (q : Nat → β) (k : Nat) : (coll (fun i => if (i : Int) ∈ l then [] else [q i]) k).length = k - cntL l k ∧
    ∀ j, j < k → ¬ (j : Int) ∈ l → (coll (fun i => if (i : Int) ∈ l then [] else [q i]) k)[j - cntL l j]? = some (q j) := by
  induction k with
  | zero => exact ⟨by simp [coll], fun j hj => by omega⟩
  | succ k ih =>
    obtain ⟨h1, h2⟩ := ih
    have hc := cnt_succ h k
    have hle := cnt_le h h0 k
    by_cases hm : (k : Int) ∈ l
    · simp only [coll, hm, if_true, List.append_nil]
      rw [if_pos hm] at hc
      refine ⟨by omega, fun j hj hn => ?_⟩
      have : j ≠ k := fun e => hn (e ▸ hm)
      exact h2 j (by omega) hn
    · simp only [coll, hm, if_false]
      rw [if_neg hm] at hc
      refine ⟨by rw [List.length_append, h1, List.length_singleton]; omega, fun j hj hn => ?_⟩
      by_cases e : j = k
      · subst e
        rw [List.getElem?_append_right (by omega), h1, Nat.sub_self]; rfl
      · have h3 := h2 j (by omega) hn
        rw [List.getElem?_append_left (by
          rcases Nat.lt_or_ge (j - cntL l j) (coll (fun i => if (i : Int) ∈ l then [] else [q i]) k).length with h4 | h4
          · exact h4
          · rw [List.getElem?_eq_none h4] at h3; cases h3)]
        exact h3

/-! Union, Incident -/
def numS (a : Int) (n : Nat) : List Int := coll (fun i => [a + (i : Int)]) n
def uniE (a b : Gr) : Nat := if validE a ≠ 0 then validE a else if validE b ≠ 0 then validE b else if 40 < a.ns.length + b.ns.length ∨ 80 < a.es.length + b.es.length then 3 else 0
def shE (n : Nat) (x : Ed) : Ed := ⟨x.ty, x.fr + n, x.tq + n⟩
def uniG (a b : Gr) : Gr := if uniE a b = 0 then ⟨a.ns ++ b.ns, a.es ++ b.es.map (shE a.ns.length)⟩ else noG
def uniM (a b : Gr) : Mo := if uniE a b = 0 then ⟨numS 0 a.ns.length, numS 0 a.es.length⟩ else noM
def uniN (a b : Gr) : Mo := if uniE a b = 0 then ⟨numS a.ns.length b.ns.length, numS a.es.length b.es.length⟩ else noM
def incE (g : Gr) (v : Int) : Nat := if validE g ≠ 0 then validE g else if idxB v g.ns.length = false then 6 else 0
def insS (g : Gr) (v : Int) (k : Nat) : List Int := coll (fun i => if (g.es.getD i default).tq = v then [(i : Int)] else []) k
def outsS (g : Gr) (v : Int) (k : Nat) : List Int := coll (fun i => if (g.es.getD i default).fr = v then [(i : Int)] else []) k
def incI (g : Gr) (v : Int) : List Int := if incE g v = 0 then insS g v g.es.length else []
def incO (g : Gr) (v : Int) : List Int := if incE g v = 0 then outsS g v g.es.length else []
theorem uni_zero {a b : Gr} (h : uniE a b = 0) : validE a = 0 ∧ validE b = 0 ∧ a.ns.length + b.ns.length ≤ 40 ∧ a.es.length + b.es.length ≤ 80 := by
  unfold uniE at h
  split at h
  · omega
  · split at h
    · omega
    · split at h
      · omega
      · exact ⟨by omega, by omega, by omega, by omega⟩
theorem inc_zero {g : Gr} {v : Int} (h : incE g v = 0) : validE g = 0 ∧ 0 ≤ v ∧ v < g.ns.length := by
  unfold incE at h
  split at h
  · omega
  · split at h
    · omega
    · rename_i h1 h2
      have := idxB_iff.1 (Bool.not_eq_false _ ▸ h2 : idxB v g.ns.length = true)
      exact ⟨by omega, this⟩

end Go.Proofs.YtaeelanbkdkppaaDoor

/-
  Partitions as plain lists of numbers (stage 2's texts): what the document's words say, and quotients.
-/
namespace Go.Proofs.YtaeelanbkdkppaaDoor.Pt


/-- the number at a place (0 beyond the end) -/
def at_ (p : List Nat) (i : Nat) : Nat := p.getD i 0

/-- p is a partition -/
def V (p : List Nat) : Prop := ∀ i, i < p.length → at_ p i ≤ i ∧ at_ p (at_ p i) = at_ p i

/-- p is finer than q -/
def F (p q : List Nat) : Prop := ∀ i, i < p.length → at_ q (at_ p i) = at_ q i

theorem at_get {p : List Nat} {i : Nat} (h : i < p.length) : p[i] = at_ p i := by simp [at_, List.getD, h]
theorem at_get? {p : List Nat} {i : Nat} (h : i < p.length) : p[i]? = some (at_ p i) := by simp [at_, List.getD, h]
theorem at_map {p : List Nat} {f : Nat → Nat} {i : Nat} (h : i < p.length) : at_ (p.map f) i = f (at_ p i) := by simp [at_, List.getD, h]
theorem at_range {n i : Nat} (h : i < n) : at_ (List.range n) i = i := by simp [at_, List.getD, h]
theorem ext_at {p q : List Nat} (hl : p.length = q.length) (h : ∀ i, i < p.length → at_ p i = at_ q i) : p = q := by
  apply List.ext_getElem hl
  intro i h1 h2
  rw [at_get h1, at_get h2]
  exact h i h1

theorem V.le {p : List Nat} (h : V p) {i : Nat} (hi : i < p.length) : at_ p i ≤ i := (h i hi).1
theorem V.lt {p : List Nat} (h : V p) {i : Nat} (hi : i < p.length) : at_ p i < p.length := Nat.lt_of_le_of_lt (h i hi).1 hi
theorem V.idem {p : List Nat} (h : V p) {i : Nat} (hi : i < p.length) : at_ p (at_ p i) = at_ p i := (h i hi).2

theorem V_range (n : Nat) : V (List.range n) := by
  intro i hi
  rw [List.length_range] at hi
  rw [at_range hi, at_range hi]
  exact ⟨Nat.le_refl _, rfl⟩

theorem F.refl {p : List Nat} (h : V p) : F p p := fun _ hi => h.idem hi
theorem F.trans {p q r : List Nat} (hp : V p) (hl : p.length = q.length) (h : F p q) (k : F q r) : F p r := by
  intro i hi
  have h1 := h i hi
  have h2 := k (at_ p i) (by rw [← hl]; exact hp.lt hi)
  have h3 := k i (by rw [← hl]; exact hi)
  rw [← h2, h1, h3]
theorem F.antisymm {p q : List Nat} (hp : V p) (hq : V q) (hl : p.length = q.length) (h : F p q) (k : F q p) : p = q := by
  apply ext_at hl
  intro i hi
  have h1 := h i hi
  have h2 := k i (by rw [← hl]; exact hi)
  have h3 := hq.le (i := at_ p i) (by rw [← hl]; exact hp.lt hi)
  have h4 := hp.le (i := at_ q i) (by rw [hl]; exact hq.lt (by rw [← hl]; exact hi))
  omega
theorem F.rel {p q : List Nat} (h : F p q) {i k : Nat} (hi : i < p.length) (hk : k < p.length) (e : at_ p i = at_ p k) : at_ q i = at_ q k := by
  rw [← h i hi, ← h k hk, e]
theorem F_range {n : Nat} {q : List Nat} : F (List.range n) q := by
  intro i hi
  rw [List.length_range] at hi
  rw [at_range hi]

/-- the classes of two elements joined -/
def mergeS (p : List Nat) (i k : Nat) : List Nat := p.map fun x => if x = max (at_ p i) (at_ p k) then min (at_ p i) (at_ p k) else x
theorem mergeS_length (p : List Nat) (i k : Nat) : (mergeS p i k).length = p.length := by simp [mergeS]
theorem at_merge {p : List Nat} {a b i : Nat} (hi : i < p.length) : at_ (mergeS p a b) i = if at_ p i = max (at_ p a) (at_ p b) then min (at_ p a) (at_ p b) else at_ p i := at_map hi

theorem V_merge {p : List Nat} (h : V p) {a b : Nat} (ha : a < p.length) (hb : b < p.length) : V (mergeS p a b) := by
  intro i hi
  rw [mergeS_length] at hi
  have hpa := h.idem ha
  have hpb := h.idem hb
  have hla := h.lt ha
  have hlb := h.lt hb
  have hle := h.le hi
  have hid := h.idem hi
  have hlt := h.lt hi
  by_cases he : at_ p i = max (at_ p a) (at_ p b)
  · have e1 : at_ (mergeS p a b) i = min (at_ p a) (at_ p b) := by rw [at_merge hi, if_pos he]
    rw [e1]
    refine ⟨by omega, ?_⟩
    have hm : at_ p (min (at_ p a) (at_ p b)) = min (at_ p a) (at_ p b) := by
      rcases Nat.le_total (at_ p a) (at_ p b) with h1 | h1
      · rw [Nat.min_eq_left h1, hpa]
      · rw [Nat.min_eq_right h1, hpb]
    rw [at_merge (by omega), hm]
    split <;> rfl
  · have e1 : at_ (mergeS p a b) i = at_ p i := by rw [at_merge hi, if_neg he]
    rw [e1]
    refine ⟨hle, ?_⟩
    rw [at_merge hlt, hid, if_neg he]

theorem F_merge {p : List Nat} (h : V p) (a b : Nat) : F p (mergeS p a b) := by
  intro i hi
  rw [at_merge (h.lt hi), at_merge hi, h.idem hi]

theorem merge_same {p : List Nat} {a b : Nat} (ha : a < p.length) (hb : b < p.length) : at_ (mergeS p a b) a = at_ (mergeS p a b) b := by
  rw [at_merge ha, at_merge hb]
  rcases Nat.lt_trichotomy (at_ p a) (at_ p b) with h | h | h
  · rw [if_neg (by omega), if_pos (by omega)]; omega
  · rw [h]
  · rw [if_pos (by omega), if_neg (by omega)]; omega

theorem merge_least {p q : List Nat} {a b : Nat} (ha : a < p.length) (hb : b < p.length) (hf : F p q) (hs : at_ q a = at_ q b) : F (mergeS p a b) q := by
  intro i hi
  rw [mergeS_length] at hi
  have h1 := hf i hi
  have h2 := hf a ha
  have h3 := hf b hb
  rw [at_merge hi]
  by_cases he : at_ p i = max (at_ p a) (at_ p b)
  · rw [if_pos he]
    rcases Nat.le_total (at_ p a) (at_ p b) with h4 | h4
    · rw [Nat.min_eq_left h4, h2, hs, ← h3, ← h1, he, Nat.max_eq_right h4]
    · rw [Nat.min_eq_right h4, h3, ← hs, ← h2, ← h1, he, Nat.max_eq_left h4]
  · rw [if_neg he, h1]

/-- the pairs of a list, joined one after another -/
def merges (p : List Nat) (l : List (Nat × Nat)) : List Nat := l.foldl (fun p x => mergeS p x.1 x.2) p
def inR (n : Nat) (l : List (Nat × Nat)) : Prop := ∀ x ∈ l, x.1 < n ∧ x.2 < n
def Resp (q : List Nat) (l : List (Nat × Nat)) : Prop := ∀ x ∈ l, at_ q x.1 = at_ q x.2

theorem merges_length (l : List (Nat × Nat)) : ∀ p, (merges p l).length = p.length := by
  induction l with
  | nil => intro p; rfl
  | cons x r ih => intro p; show (merges (mergeS p x.1 x.2) r).length = _; rw [ih, mergeS_length]
theorem merges_append (p : List Nat) (l m : List (Nat × Nat)) : merges p (l ++ m) = merges (merges p l) m := by simp [merges]

theorem F.resp {p q : List Nat} {l : List (Nat × Nat)} (h : F p q) (hi : inR p.length l) (hr : Resp p l) : Resp q l := fun x hx => h.rel (hi x hx).1 (hi x hx).2 (hr x hx)

theorem merges_all (l : List (Nat × Nat)) : ∀ p, V p → inR p.length l →
    V (merges p l) ∧ F p (merges p l) ∧ Resp (merges p l) l ∧ ∀ q, F p q → Resp q l → F (merges p l) q := by
  induction l with
  | nil => intro p h _; exact ⟨h, F.refl h, fun x hx => by simp at hx, fun q hq _ => hq⟩
  | cons x r ih =>
    intro p h hi
    obtain ⟨h1, h2⟩ := hi x (by simp)
    have hv := V_merge h h1 h2
    have hi' : inR (mergeS p x.1 x.2).length r := by rw [mergeS_length]; exact fun y hy => hi y (by simp [hy])
    obtain ⟨k1, k2, k3, k4⟩ := ih _ hv hi'
    have e : merges p (x :: r) = merges (mergeS p x.1 x.2) r := rfl
    rw [e]
    refine ⟨k1, F.trans h (mergeS_length ..).symm (F_merge h _ _) k2, ?_, ?_⟩
    · intro y hy
      rcases List.mem_cons.1 hy with rfl | hy
      · exact k2.rel (by rw [mergeS_length]; exact h1) (by rw [mergeS_length]; exact h2) (merge_same h1 h2)
      · exact k3 y hy
    · intro q hq hr
      exact k4 q (merge_least h1 h2 hq (hr x (by simp))) (fun y hy => hr y (by simp [hy]))

/-- what pairs generate -/
def genS (n : Nat) (l : List (Nat × Nat)) : List Nat := merges (List.range n) l
theorem genS_length (n : Nat) (l : List (Nat × Nat)) : (genS n l).length = n := by unfold genS; rw [merges_length, List.length_range]
theorem V_gen {n : Nat} {l : List (Nat × Nat)} (h : inR n l) : V (genS n l) := (merges_all l _ (V_range n) (by rw [List.length_range]; exact h)).1
theorem gen_resp {n : Nat} {l : List (Nat × Nat)} (h : inR n l) : Resp (genS n l) l := (merges_all l _ (V_range n) (by rw [List.length_range]; exact h)).2.2.1
theorem gen_least {n : Nat} {l : List (Nat × Nat)} (h : inR n l) {q : List Nat} (hq : Resp q l) : F (genS n l) q := (merges_all l _ (V_range n) (by rw [List.length_range]; exact h)).2.2.2 q F_range hq

/-- the pairs that b says: i and the least element of its class -/
def pairsOf (b : List Nat) (k : Nat) : List (Nat × Nat) := (List.range k).map fun i => (i, at_ b i)
theorem pairsOf_succ (b : List Nat) (k : Nat) : pairsOf b (k + 1) = pairsOf b k ++ [(k, at_ b k)] := by simp [pairsOf, List.range_succ]
theorem pairs_inR {b : List Nat} (h : V b) {k : Nat} (hk : k ≤ b.length) : inR b.length (pairsOf b k) := by
  intro x hx
  simp only [pairsOf, List.mem_map, List.mem_range] at hx
  obtain ⟨i, hi, rfl⟩ := hx
  exact ⟨by show i < _; omega, h.lt (by omega)⟩
theorem resp_pairs {b q : List Nat} : Resp q (pairsOf b b.length) ↔ F b q := by
  constructor
  · intro h i hi
    have := h (i, at_ b i) (by simp only [pairsOf, List.mem_map, List.mem_range]; exact ⟨i, hi, rfl⟩)
    exact this.symm
  · intro h x hx
    simp only [pairsOf, List.mem_map, List.mem_range] at hx
    obtain ⟨i, hi, rfl⟩ := hx
    exact (h i hi).symm

/-- the join -/
def joinS (a b : List Nat) : List Nat := merges a (pairsOf b b.length)
theorem joinS_length (a b : List Nat) : (joinS a b).length = a.length := merges_length _ _
theorem join_all {a b : List Nat} (ha : V a) (hb : V b) (hl : a.length = b.length) :
    V (joinS a b) ∧ F a (joinS a b) ∧ F b (joinS a b) ∧ ∀ q, F a q → F b q → F (joinS a b) q := by
  obtain ⟨h1, h2, h3, h4⟩ := merges_all (pairsOf b b.length) a ha (by rw [hl]; exact pairs_inR hb (Nat.le_refl _))
  exact ⟨h1, h2, resp_pairs.1 h3, fun q k1 k2 => h4 q k1 (resp_pairs.2 k2)⟩

/-- a list with the join's properties is the join -/
theorem join_of {a b j : List Nat} (ha : V a) (hb : V b) (hl : a.length = b.length) (hj : V j) (hlj : j.length = a.length) (h1 : F a j) (h2 : F b j) (h3 : ∀ q, F a q → F b q → F j q) : j = joinS a b := by
  obtain ⟨k1, k2, k3, k4⟩ := join_all ha hb hl
  exact F.antisymm hj k1 (by rw [joinS_length, hlj]) (h3 _ k2 k3) (k4 _ h1 h2)

/-- the join as the reference computes it -/
def pairsTwo (a b : List Nat) : Nat → List (Nat × Nat)
  | 0 => []
  | k + 1 => pairsTwo a b k ++ [(k, at_ a k), (k, at_ b k)]
theorem mem_pairsTwo {a b : List Nat} {k : Nat} {x : Nat × Nat} : x ∈ pairsTwo a b k ↔ ∃ i, i < k ∧ (x = (i, at_ a i) ∨ x = (i, at_ b i)) := by
  induction k with
  | zero => simp [pairsTwo]
  | succ k ih =>
    simp only [pairsTwo, List.mem_append, ih, List.mem_cons, List.not_mem_nil, or_false]
    constructor
    · rintro (⟨i, hi, h⟩ | h | h)
      · exact ⟨i, by omega, h⟩
      · exact ⟨k, by omega, .inl h⟩
      · exact ⟨k, by omega, .inr h⟩
    · rintro ⟨i, hi, h⟩
      by_cases e : i = k
      · subst e
        exact .inr h
      · exact .inl ⟨i, by omega, h⟩
theorem two_inR {a b : List Nat} (ha : V a) (hb : V b) (hl : a.length = b.length) {k : Nat} (hk : k ≤ a.length) : inR a.length (pairsTwo a b k) := by
  intro x hx
  obtain ⟨i, hi, rfl | rfl⟩ := mem_pairsTwo.1 hx
  · exact ⟨by show i < _; omega, ha.lt (by omega)⟩
  · exact ⟨by show i < _; omega, by have := hb.lt (i := i) (by omega); show at_ b i < _; omega⟩
theorem join_two {a b : List Nat} (ha : V a) (hb : V b) (hl : a.length = b.length) : genS a.length (pairsTwo a b a.length) = joinS a b := by
  have hi := two_inR ha hb hl (Nat.le_refl _)
  have hr := gen_resp hi
  refine join_of ha hb hl (V_gen hi) (genS_length _ _) ?_ ?_ ?_
  · intro i h
    exact (hr (i, at_ a i) (mem_pairsTwo.2 ⟨i, h, .inl rfl⟩)).symm
  · intro i h
    exact (hr (i, at_ b i) (mem_pairsTwo.2 ⟨i, by omega, .inr rfl⟩)).symm
  · intro q h1 h2
    refine gen_least hi ?_
    intro x hx
    obtain ⟨i, h, rfl | rfl⟩ := mem_pairsTwo.1 hx
    · exact (h1 i h).symm
    · exact (h2 i (by omega)).symm

/-- the least k at which a and b agree with their values at i -/
def leastS (a b : List Nat) (i : Nat) : Nat := ((List.range (i + 1)).find? fun k => at_ a k == at_ a i && at_ b k == at_ b i).getD 0
theorem leastS_spec (a b : List Nat) (i : Nat) : leastS a b i ≤ i ∧ at_ a (leastS a b i) = at_ a i ∧ at_ b (leastS a b i) = at_ b i ∧ ∀ k, k < leastS a b i → ¬ (at_ a k = at_ a i ∧ at_ b k = at_ b i) := by
  unfold leastS
  cases h : (List.range (i + 1)).find? fun k => at_ a k == at_ a i && at_ b k == at_ b i with
  | none =>
    rw [List.find?_eq_none] at h
    have := h i (by simp)
    simp at this
  | some k =>
    rw [List.find?_range_eq_some] at h
    obtain ⟨h1, h2, h3⟩ := h
    simp at h1 h2
    refine ⟨by simp; omega, h1.1, h1.2, fun j hj he => ?_⟩
    have := h3 j hj
    rw [he.1, he.2] at this
    simp at this
theorem leastS_eq {a b : List Nat} {i k : Nat} (h1 : at_ a k = at_ a i) (h2 : at_ b k = at_ b i) (h3 : ∀ j, j < k → ¬ (at_ a j = at_ a i ∧ at_ b j = at_ b i)) : leastS a b i = k := by
  obtain ⟨k1, k2, k3, k4⟩ := leastS_spec a b i
  rcases Nat.lt_trichotomy (leastS a b i) k with h | h | h
  · exact absurd ⟨k2, k3⟩ (h3 _ h)
  · exact h
  · exact absurd ⟨h1, h2⟩ (k4 _ h)

def meetS (a b : List Nat) : List Nat := (List.range a.length).map (leastS a b)
theorem meetS_length (a b : List Nat) : (meetS a b).length = a.length := by simp [meetS]
theorem at_meet {a b : List Nat} {i : Nat} (h : i < a.length) : at_ (meetS a b) i = leastS a b i := by
  unfold meetS
  rw [at_map (by simpa using h), at_range h]
theorem meet_all {a b : List Nat} : V (meetS a b) ∧ F (meetS a b) a ∧ F (meetS a b) b ∧ ∀ c, V c → c.length = a.length → F c a → F c b → F c (meetS a b) := by
  refine ⟨fun i hi => ?_, fun i hi => ?_, fun i hi => ?_, fun c hv hl h1 h2 i hi => ?_⟩
  · rw [meetS_length] at hi
    obtain ⟨k1, k2, k3, k4⟩ := leastS_spec a b i
    rw [at_meet hi]
    refine ⟨k1, ?_⟩
    rw [at_meet (by omega)]
    refine leastS_eq rfl rfl (fun j hj => ?_)
    rw [k2, k3]
    exact k4 j hj
  · rw [meetS_length] at hi
    rw [at_meet hi]
    exact (leastS_spec a b i).2.1
  · rw [meetS_length] at hi
    rw [at_meet hi]
    exact (leastS_spec a b i).2.2.1
  · have hlt := hv.lt hi
    rw [at_meet (by omega), at_meet (by omega)]
    obtain ⟨k1, k2, k3, k4⟩ := leastS_spec a b i
    have e1 := h1 i hi
    have e2 := h2 i hi
    exact leastS_eq (by rw [k2, e1]) (by rw [k3, e2]) (fun j hj => by rw [e1, e2]; exact k4 j hj)



/-- the least elements below k -/
def fixsTo (p : List Nat) (k : Nat) : List Nat := (List.range k).filter fun j => at_ p j == j
/-- how many classes begin below k -/
def rank (p : List Nat) (k : Nat) : Nat := (fixsTo p k).length
theorem fixsTo_yes {p : List Nat} {k : Nat} (h : at_ p k = k) : fixsTo p (k + 1) = fixsTo p k ++ [k] := by
  unfold fixsTo
  rw [List.range_succ, List.filter_append]
  simp [h]
theorem fixsTo_no {p : List Nat} {k : Nat} (h : at_ p k ≠ k) : fixsTo p (k + 1) = fixsTo p k := by
  unfold fixsTo
  rw [List.range_succ, List.filter_append]
  simp [h]
theorem rank_yes {p : List Nat} {k : Nat} (h : at_ p k = k) : rank p (k + 1) = rank p k + 1 := by simp [rank, fixsTo_yes h]
theorem rank_no {p : List Nat} {k : Nat} (h : at_ p k ≠ k) : rank p (k + 1) = rank p k := by simp [rank, fixsTo_no h]
theorem rank_le (p : List Nat) (k : Nat) : rank p k ≤ k := by
  unfold rank fixsTo
  exact Nat.le_trans (List.length_filter_le _ _) (by simp)
theorem fixsTo_split (p : List Nat) (k d : Nat) : ∃ r, fixsTo p (k + d) = fixsTo p k ++ r ∧ (0 < d → at_ p k = k → r.head? = some k) := by
  induction d with
  | zero => exact ⟨[], by simp, fun h => by omega⟩
  | succ d ih =>
    obtain ⟨r, h1, h2⟩ := ih
    by_cases h : at_ p (k + d) = k + d
    · refine ⟨r ++ [k + d], ?_, fun _ hk => ?_⟩
      · rw [← Nat.add_assoc, fixsTo_yes h, h1, List.append_assoc]
      · rcases Nat.eq_zero_or_pos d with e | e
        · subst e
          have : r = [] := by simpa using h1
          rw [this]; rfl
        · have := h2 e hk
          cases r with
          | nil => simp at this
          | cons a s => simpa using this
    · refine ⟨r, by rw [← Nat.add_assoc, fixsTo_no h, h1], fun _ hk => ?_⟩
      rcases Nat.eq_zero_or_pos d with e | e
      · subst e; exact absurd hk h
      · exact h2 e hk
theorem fixs_at {p : List Nat} {k n : Nat} (hk : k < n) (h : at_ p k = k) : (fixsTo p n)[rank p k]? = some k := by
  obtain ⟨r, h1, h2⟩ := fixsTo_split p k (n - k)
  rw [show k + (n - k) = n by omega] at h1
  have := h2 (by omega) h
  rw [h1]
  unfold rank
  rw [List.getElem?_append_right (Nat.le_refl _), Nat.sub_self]
  cases r with
  | nil => simp at this
  | cons a s => simpa using this
theorem rank_lt {p : List Nat} {k n : Nat} (hk : k < n) (h : at_ p k = k) : rank p k < rank p n := by
  have := fixs_at hk h
  rcases Nat.lt_or_ge (rank p k) (fixsTo p n).length with h1 | h1
  · exact h1
  · rw [List.getElem?_eq_none h1] at this; cases this
theorem fixs_mem {p : List Nat} {n i f : Nat} (h : (fixsTo p n)[i]? = some f) : f < n ∧ at_ p f = f ∧ rank p f = i := by
  have hm : f ∈ fixsTo p n := List.mem_of_getElem? h
  unfold fixsTo at hm
  rw [List.mem_filter, List.mem_range] at hm
  obtain ⟨h1, h2⟩ := hm
  have h2' : at_ p f = f := by simpa using h2
  refine ⟨h1, h2', ?_⟩
  have h3 := fixs_at h1 h2'
  have hnd : (fixsTo p n).Nodup := List.nodup_range.filter _
  have hi : i < (fixsTo p n).length := by
    rcases Nat.lt_or_ge i (fixsTo p n).length with h1 | h1
    · exact h1
    · rw [List.getElem?_eq_none h1] at h; cases h
  exact ((List.getElem?_inj hi hnd).1 (h.trans h3.symm)).symm

theorem at_take {l : List Nat} {i k : Nat} (h : i < k) : at_ (l.take k) i = at_ l i := by
  unfold at_
  rw [List.getD_eq_getElem?_getD, List.getD_eq_getElem?_getD, List.getElem?_take, if_pos h]

def quoS (p : List Nat) : List Nat := (List.range p.length).map fun i => rank p (at_ p i)
theorem quoS_length (p : List Nat) : (quoS p).length = p.length := by simp [quoS]
theorem quoS_at {p : List Nat} {i : Nat} (h : i < p.length) : at_ (quoS p) i = rank p (at_ p i) := by
  unfold quoS
  rw [at_map (by simpa using h), at_range h]
theorem quoS_take {p : List Nat} {k : Nat} (h : k < p.length) : (quoS p).take (k + 1) = (quoS p).take k ++ [rank p (at_ p k)] := by
  rw [List.take_succ_eq_append_getElem (by rw [quoS_length]; exact h), at_get (by rw [quoS_length]; exact h), quoS_at h]

/-- the quotient's first k places, the rest 0 -/
def quoTo (p : List Nat) (k : Nat) : List Nat := (quoS p).take k ++ List.replicate (p.length - k) 0
theorem quoTo_length {p : List Nat} {k : Nat} (h : k ≤ p.length) : (quoTo p k).length = p.length := by simp [quoTo, quoS_length]; omega
theorem quoTo_zero (p : List Nat) : quoTo p 0 = List.replicate p.length 0 := by simp [quoTo]
theorem quoTo_all (p : List Nat) : quoTo p p.length = quoS p := by
  unfold quoTo
  rw [List.take_of_length_le (by rw [quoS_length]; exact Nat.le_refl _)]
  simp
theorem quoTo_at {p : List Nat} {i k : Nat} (hi : i < k) (hk : k ≤ p.length) : at_ (quoTo p k) i = rank p (at_ p i) := by
  unfold quoTo at_
  rw [List.getD_eq_getElem?_getD, List.getElem?_append_left (by rw [List.length_take, quoS_length]; omega), List.getElem?_take, if_pos hi]
  have := quoS_at (p := p) (i := i) (by omega)
  unfold at_ at this
  rw [List.getD_eq_getElem?_getD] at this
  exact this
theorem quoTo_set {p : List Nat} {k : Nat} (h : k < p.length) : (quoTo p k).set k (rank p (at_ p k)) = quoTo p (k + 1) := by
  unfold quoTo
  have hl : ((quoS p).take k).length = k := by rw [List.length_take, quoS_length]; omega
  rw [quoS_take h, List.set_append_right _ _ (by omega), hl, Nat.sub_self]
  obtain ⟨m, hm⟩ : ∃ m, p.length - k = m + 1 := ⟨p.length - k - 1, by omega⟩
  rw [hm, show p.length - (k + 1) = m by omega, List.replicate_succ, List.set_cons_zero]
  simp

/-- the elements below m of the class that begins with k -/
def clsOf (p : List Nat) (m k : Nat) : List Nat := (List.range m).filter fun i => at_ p i == k
theorem clsOf_yes {p : List Nat} {m k : Nat} (h : at_ p m = k) : clsOf p (m + 1) k = clsOf p m k ++ [m] := by
  unfold clsOf
  rw [List.range_succ, List.filter_append]
  simp [h]
theorem clsOf_no {p : List Nat} {m k : Nat} (h : at_ p m ≠ k) : clsOf p (m + 1) k = clsOf p m k := by
  unfold clsOf
  rw [List.range_succ, List.filter_append]
  simp [h]
theorem clsOf_len (p : List Nat) (m k : Nat) : (clsOf p m k).length ≤ m := by
  unfold clsOf
  exact Nat.le_trans (List.length_filter_le _ _) (by simp)
/-- all classes, their elements below m -/
def clsTo (p : List Nat) (m : Nat) : List (List Nat) := (fixsTo p p.length).map (clsOf p m)
def classS (p : List Nat) : List (List Nat) := clsTo p p.length
theorem clsTo_length (p : List Nat) (m : Nat) : (clsTo p m).length = rank p p.length := by simp [clsTo, rank]
theorem clsTo_zero (p : List Nat) : clsTo p 0 = List.replicate (rank p p.length) [] := by
  unfold clsTo rank
  induction fixsTo p p.length with
  | nil => rfl
  | cons a r ih => rw [List.map_cons, ih, List.length_cons, List.replicate_succ]; rfl
theorem clsTo_set {p : List Nat} (hv : V p) {m : Nat} (h : m < p.length) :
    clsTo p (m + 1) = (clsTo p m).set (rank p (at_ p m)) ((clsTo p m).getD (rank p (at_ p m)) [] ++ [m]) := by
  have hf := fixs_at (n := p.length) (hv.lt h) (hv.idem h)
  have hr : rank p (at_ p m) < (fixsTo p p.length).length := rank_lt (hv.lt h) (hv.idem h)
  apply List.ext_getElem (by simp [clsTo])
  intro i h1 h2
  have hi : i < (fixsTo p p.length).length := by simpa [clsTo] using h1
  rw [List.getElem_set]
  have ei : ∀ m, (clsTo p m)[i]? = some (clsOf p m (fixsTo p p.length)[i]) := fun m => by simp [clsTo, hi]
  have e1 : (clsTo p (m + 1))[i] = clsOf p (m + 1) (fixsTo p p.length)[i] := by simp [clsTo]
  rw [e1]
  by_cases he : rank p (at_ p m) = i
  · rw [if_pos he]
    subst he
    have hfi : (fixsTo p p.length)[rank p (at_ p m)] = at_ p m := by rw [List.getElem?_eq_getElem hi] at hf; injection hf
    rw [hfi, clsOf_yes rfl, List.getD_eq_getElem?_getD, ei m, hfi]
    rfl
  · rw [if_neg he]
    have hne : at_ p m ≠ (fixsTo p p.length)[i] := by
      intro e
      have := (fixs_mem (p := p) (n := p.length) (i := i) (f := at_ p m) (by rw [List.getElem?_eq_getElem hi, e])).2.2
      exact he this
    rw [clsOf_no hne]
    simp [clsTo]

theorem sum_set {l : List (List Nat)} {c m : Nat} (h : c < l.length) : ((l.set c (l.getD c [] ++ [m])).map List.length).sum = (l.map List.length).sum + 1 := by
  induction l generalizing c with
  | nil => simp at h
  | cons a r ih =>
    cases c with
    | zero => simp; omega
    | succ c =>
      have := ih (c := c) (by simpa using h)
      simp only [List.getD_cons_succ, List.set_cons_succ, List.map_cons, List.sum_cons]
      omega
theorem cls_sum {p : List Nat} (hv : V p) {m : Nat} (h : m ≤ p.length) : ((clsTo p m).map List.length).sum = m := by
  induction m with
  | zero => rw [clsTo_zero]; simp
  | succ m ih =>
    rw [clsTo_set hv (by omega), sum_set (by rw [clsTo_length]; exact rank_lt (hv.lt (by omega)) (hv.idem (by omega))), ih (by omega)]

/-- what a class holds: its elements have its index, and the least one is the first -/
theorem class_facts {p : List Nat} (hv : V p) {i : Nat} {cl : List Nat} (h : (classS p)[i]? = some cl) :
    0 < cl.length ∧ ∀ j, j < cl.length → at_ cl j < p.length ∧ rank p (at_ p (at_ cl j)) = i ∧ at_ p (at_ cl j) = at_ cl 0 := by
  unfold classS clsTo at h
  rw [List.getElem?_map, Option.map_eq_some_iff] at h
  obtain ⟨f, hf, rfl⟩ := h
  obtain ⟨h1, h2, h3⟩ := fixs_mem hf
  have hmem : f ∈ clsOf p p.length f := by
    unfold clsOf
    rw [List.mem_filter, List.mem_range]
    exact ⟨h1, by simp [h2]⟩
  have hpos : 0 < (clsOf p p.length f).length := List.length_pos_of_mem hmem
  have hall : ∀ j, j < (clsOf p p.length f).length → at_ (clsOf p p.length f) j < p.length ∧ at_ p (at_ (clsOf p p.length f) j) = f := by
    intro j hj
    have : at_ (clsOf p p.length f) j ∈ clsOf p p.length f := by rw [← at_get hj]; exact List.getElem_mem hj
    generalize at_ (clsOf p p.length f) j = x at this
    unfold clsOf at this
    rw [List.mem_filter, List.mem_range] at this
    exact ⟨this.1, by simpa using this.2⟩
  have h0 : at_ (clsOf p p.length f) 0 = f := by
    obtain ⟨j, hj, e⟩ := List.getElem_of_mem hmem
    rw [at_get hj] at e
    have hsort : (clsOf p p.length f).Pairwise (· < ·) := List.pairwise_lt_range.filter _
    have hle : at_ (clsOf p p.length f) 0 ≤ f := by
      rcases Nat.eq_zero_or_pos j with e0 | e0
      · subst e0; omega
      · have := List.pairwise_iff_getElem.1 hsort 0 j hpos hj e0
        rw [at_get hpos, at_get hj, e] at this
        omega
    obtain ⟨k1, k2⟩ := hall 0 hpos
    have := hv.le k1
    omega
  refine ⟨hpos, fun j hj => ?_⟩
  obtain ⟨k1, k2⟩ := hall j hj
  exact ⟨k1, by rw [k2, h3], by rw [k2, h0]⟩


end Go.Proofs.YtaeelanbkdkppaaDoor.Pt

/-
  Components as plain data: the classes of the ends, and the rounds of the reference, which come tq the same.
-/
namespace Go.Proofs.YtaeelanbkdkppaaDoor
open Pt (at_)

def endsL (g : Gr) : List (Nat × Nat) := g.es.map fun x => (x.fr.toNat, x.tq.toNat)
theorem endsL_len (g : Gr) : (endsL g).length = g.es.length := by simp [endsL]
theorem endsL_get {g : Gr} {i : Nat} (h : i < g.es.length) : (endsL g)[i]? = some (frN g i, toN g i) := by
  unfold endsL frN toN
  rw [List.getElem?_map, List.getD_eq_getElem?_getD, List.getElem?_eq_getElem h]; rfl
theorem ends_lt {g : Gr} (h : validE g = 0) {i : Nat} (hi : i < g.es.length) : frN g i < g.ns.length ∧ toN g i < g.ns.length := by
  obtain ⟨⟨h1, h2⟩, h3, h4⟩ := valid_at h hi
  unfold frN toN
  omega
theorem ends_inR {g : Gr} (h : validE g = 0) : Pt.inR g.ns.length (endsL g) := by
  intro x hx
  obtain ⟨i, hi, rfl⟩ := List.mem_iff_getElem.1 hx
  rw [endsL_len] at hi
  have := endsL_get hi
  rw [List.getElem?_eq_getElem (by rw [endsL_len]; exact hi)] at this
  injection this with this
  rw [this]
  exact ends_lt h hi
/-- the least node of each node's component -/
def lstS (g : Gr) : List Nat := Pt.genS g.ns.length (endsL g)
theorem lstS_len (g : Gr) : (lstS g).length = g.ns.length := Pt.genS_length _ _
theorem lstS_V {g : Gr} (h : validE g = 0) : Pt.V (lstS g) := Pt.V_gen (ends_inR h)
theorem lst_edge {g : Gr} (h : validE g = 0) {i : Nat} (hi : i < g.es.length) : at_ (lstS g) (frN g i) = at_ (lstS g) (toN g i) :=
  Pt.gen_resp (ends_inR h) (frN g i, toN g i) (List.mem_of_getElem? (endsL_get hi))

def ndsOf (L : List Nat) (n r : Nat) : List Int := coll (fun i => if at_ L i = r then [(i : Int)] else []) n
def edsOf (g : Gr) (L : List Nat) (m r : Nat) : List Int := coll (fun j => if at_ L (frN g j) = r then [(j : Int)] else []) m
def compTo (g : Gr) (L : List Nat) (k : Nat) : List Mo := (Pt.fixsTo L k).map fun r => ⟨ndsOf L g.ns.length r, edsOf g L g.es.length r⟩
def compR (g : Gr) : List Mo := if validE g = 0 then compTo g (lstS g) g.ns.length else []
theorem compTo_len (g : Gr) (L : List Nat) (k : Nat) : (compTo g L k).length = Pt.rank L k := by simp [compTo, Pt.rank]

/-! the rounds of the reference -/
def relax (ls : List Nat) (a b : Nat) : List Nat := (ls.set a (min (at_ ls a) (at_ ls b))).set b (min (at_ ls a) (at_ ls b))
theorem relax_len (ls : List Nat) (a b : Nat) : (relax ls a b).length = ls.length := by simp [relax]
theorem at_set {l : List Nat} {a x i : Nat} (ha : a < l.length) : at_ (l.set a x) i = if i = a then x else at_ l i := by
  unfold at_
  rw [List.getD_eq_getElem?_getD, List.getD_eq_getElem?_getD, List.getElem?_set]
  by_cases h : a = i
  · subst h; rw [if_pos rfl, if_pos rfl, if_pos ha]; rfl
  · rw [if_neg h, if_neg (fun e => h e.symm)]
theorem at_relax {ls : List Nat} {a b i : Nat} (ha : a < ls.length) (hb : b < ls.length) : at_ (relax ls a b) i = if i = a ∨ i = b then min (at_ ls a) (at_ ls b) else at_ ls i := by
  unfold relax
  rw [at_set (by simpa using hb), at_set ha]
  by_cases h1 : i = b
  · rw [if_pos h1, if_pos (.inr h1)]
  · rw [if_neg h1]
    by_cases h2 : i = a
    · rw [if_pos h2, if_pos (.inl h2)]
    · rw [if_neg h2, if_neg (by omega)]
def relTo (g : Gr) (ls : List Nat) : Nat → List Nat
  | 0 => ls
  | j + 1 => relax (relTo g ls j) (frN g j) (toN g j)
theorem relTo_len (g : Gr) (ls : List Nat) (j : Nat) : (relTo g ls j).length = ls.length := by
  induction j with
  | zero => rfl
  | succ j ih => simp only [relTo, relax_len, ih]
def rnd (g : Gr) : Nat → List Nat
  | 0 => List.range g.ns.length
  | r + 1 => relTo g (rnd g r) g.es.length
theorem rnd_len (g : Gr) (r : Nat) : (rnd g r).length = g.ns.length := by
  induction r with
  | zero => simp [rnd]
  | succ r ih => simp only [rnd, relTo_len, ih]

/-- above the least node, in its class -/
def Inv (g : Gr) (ls : List Nat) : Prop := ls.length = g.ns.length ∧ ∀ i, i < g.ns.length → at_ (lstS g) i ≤ at_ ls i ∧ at_ ls i ≤ i ∧ at_ (lstS g) (at_ ls i) = at_ (lstS g) i
theorem inv_range {g : Gr} (h : validE g = 0) : Inv g (List.range g.ns.length) := by
  refine ⟨by simp, fun i hi => ?_⟩
  rw [Pt.at_range hi]
  exact ⟨(lstS_V h).le (by rw [lstS_len]; exact hi), Nat.le_refl _, rfl⟩
theorem inv_relax {g : Gr} {ls : List Nat} (hI : Inv g ls) {a b : Nat} (ha : a < g.ns.length) (hb : b < g.ns.length) (he : at_ (lstS g) a = at_ (lstS g) b) : Inv g (relax ls a b) := by
  obtain ⟨h1, h2⟩ := hI
  refine ⟨by rw [relax_len]; exact h1, fun i hi => ?_⟩
  rw [at_relax (by omega) (by omega)]
  obtain ⟨a1, a2, a3⟩ := h2 a ha
  obtain ⟨b1, b2, b3⟩ := h2 b hb
  by_cases h : i = a ∨ i = b
  · rw [if_pos h]
    rcases Nat.le_total (at_ ls a) (at_ ls b) with hm | hm
    · rw [Nat.min_eq_left hm]
      rcases h with rfl | rfl
      · exact ⟨a1, a2, a3⟩
      · exact ⟨by omega, by omega, by rw [a3, he]⟩
    · rw [Nat.min_eq_right hm]
      rcases h with rfl | rfl
      · exact ⟨by omega, by omega, by rw [b3, he]⟩
      · exact ⟨b1, b2, b3⟩
  · rw [if_neg h]; exact h2 i hi
theorem inv_to {g : Gr} (hv : validE g = 0) {ls : List Nat} (hI : Inv g ls) {j : Nat} (hj : j ≤ g.es.length) : Inv g (relTo g ls j) := by
  induction j with
  | zero => exact hI
  | succ j ih =>
    obtain ⟨h1, h2⟩ := ends_lt hv (i := j) (by omega)
    exact inv_relax (ih (by omega)) h1 h2 (lst_edge hv (by omega))
theorem inv_rnd {g : Gr} (hv : validE g = 0) (r : Nat) : Inv g (rnd g r) := by
  induction r with
  | zero => exact inv_range hv
  | succ r ih => exact inv_to hv ih (Nat.le_refl _)
/-- a node that has come tq its least node -/
def Come (g : Gr) (ls : List Nat) (i : Nat) : Prop := at_ ls i = at_ (lstS g) i
theorem come_relax {g : Gr} {ls : List Nat} (hI : Inv g ls) {a b i : Nat} (ha : a < g.ns.length) (hb : b < g.ns.length) (hi : i < g.ns.length) (he : at_ (lstS g) a = at_ (lstS g) b) (h : Come g ls i) : Come g (relax ls a b) i := by
  have h3 := (inv_relax hI ha hb he).2 i hi
  have h4 := (hI.2 i hi)
  unfold Come at h ⊢
  have : at_ (relax ls a b) i ≤ at_ ls i := by
    rw [at_relax (by rw [hI.1]; exact ha) (by rw [hI.1]; exact hb)]
    split
    · rename_i h5
      rcases h5 with rfl | rfl <;> omega
    · exact Nat.le_refl _
  omega
theorem come_both {g : Gr} {ls : List Nat} (hI : Inv g ls) {a b : Nat} (ha : a < g.ns.length) (hb : b < g.ns.length) (he : at_ (lstS g) a = at_ (lstS g) b) (h : Come g ls a ∨ Come g ls b) : Come g (relax ls a b) a ∧ Come g (relax ls a b) b := by
  obtain ⟨a1, _, _⟩ := hI.2 a ha
  obtain ⟨b1, _, _⟩ := hI.2 b hb
  unfold Come at h ⊢
  rw [at_relax (by rw [hI.1]; exact ha) (by rw [hI.1]; exact hb), at_relax (by rw [hI.1]; exact ha) (by rw [hI.1]; exact hb), if_pos (.inl rfl), if_pos (.inr rfl)]
  rcases h with h | h <;> omega
theorem come_to {g : Gr} (hv : validE g = 0) {ls : List Nat} (hI : Inv g ls) {i : Nat} (hi : i < g.ns.length) (h : Come g ls i) {j : Nat} (hj : j ≤ g.es.length) : Come g (relTo g ls j) i := by
  induction j with
  | zero => exact h
  | succ j ih =>
    obtain ⟨h1, h2⟩ := ends_lt hv (i := j) (by omega)
    exact come_relax (inv_to hv hI (by omega)) h1 h2 hi (lst_edge hv (by omega)) (ih (by omega))
theorem come_edge {g : Gr} (hv : validE g = 0) {ls : List Nat} (hI : Inv g ls) {k : Nat} (hk : k < g.es.length) (h : Come g ls (frN g k) ∨ Come g ls (toN g k)) {j : Nat} (hj : j ≤ g.es.length) (hkj : k < j) : Come g (relTo g ls j) (frN g k) ∧ Come g (relTo g ls j) (toN g k) := by
  induction j with
  | zero => omega
  | succ j ih =>
    obtain ⟨h1, h2⟩ := ends_lt hv (i := j) (by omega)
    obtain ⟨k1, k2⟩ := ends_lt hv hk
    have hI' := inv_to hv hI (j := j) (by omega)
    by_cases e : k = j
    · subst e
      exact come_both hI' h1 h2 (lst_edge hv hk) (h.imp (fun h => come_to hv hI k1 h (by omega)) (fun h => come_to hv hI k2 h (by omega)))
    · obtain ⟨h3, h4⟩ := ih (by omega) (by omega)
      exact ⟨come_relax hI' h1 h2 k1 (lst_edge hv (by omega)) h3, come_relax hI' h1 h2 k2 (lst_edge hv (by omega)) h4⟩
/-- how many have come -/
def cntC (p : Nat → Bool) : Nat → Nat
  | 0 => 0
  | n + 1 => cntC p n + if p n then 1 else 0
theorem cntC_le (p : Nat → Bool) (n : Nat) : cntC p n ≤ n := by
  induction n with
  | zero => exact Nat.le_refl _
  | succ n ih => simp only [cntC]; split <;> omega
theorem cntC_all {p : Nat → Bool} {n : Nat} (h : n ≤ cntC p n) : ∀ i, i < n → p i = true := by
  induction n with
  | zero => intro i hi; omega
  | succ n ih =>
    simp only [cntC] at h
    have := cntC_le p n
    intro i hi
    split at h
    · rename_i hp
      by_cases e : i = n
      · subst e; exact hp
      · exact ih (by omega) i (by omega)
    · omega
theorem cntC_mono {p q : Nat → Bool} {n : Nat} (h : ∀ i, i < n → p i = true → q i = true) : cntC p n ≤ cntC q n := by
  induction n with
  | zero => exact Nat.le_refl _
  | succ n ih =>
    simp only [cntC]
    have h1 := ih fun i hi => h i (by omega)
    have h2 := h n (by omega)
    by_cases hp : p n = true
    · rw [if_pos hp, if_pos (h2 hp)]; omega
    · rw [if_neg hp]; omega
theorem cntC_less {p q : Nat → Bool} {n i : Nat} (hi : i < n) (h : ∀ i, i < n → p i = true → q i = true) (hp : p i = false) (hq : q i = true) : cntC p n < cntC q n := by
  induction n with
  | zero => omega
  | succ n ih =>
    simp only [cntC]
    by_cases e : i = n
    · subst e
      have := cntC_mono (n := i) fun j hj => h j (by omega)
      rw [if_pos hq, if_neg (by rw [hp]; simp)]; omega
    · have h1 := ih (by omega) fun j hj => h j (by omega)
      have h2 := h n (by omega)
      by_cases hp2 : p n = true
      · rw [if_pos hp2, if_pos (h2 hp2)]; omega
      · rw [if_neg hp2]; omega
theorem come_cross {g : Gr} (hv : validE g = 0) {ls : List Nat} (hI : Inv g ls) {i : Nat} (hi : i < g.ns.length) (hn : ¬ Come g ls i) : ∃ k, k < g.es.length ∧ (Come g ls (frN g k) ∧ ¬ Come g ls (toN g k) ∨ Come g ls (toN g k) ∧ ¬ Come g ls (frN g k)) := by
  apply Classical.byContradiction
  intro hc
  have hall : ∀ k, k < g.es.length → (Come g ls (frN g k) ↔ Come g ls (toN g k)) := fun k hk => by
    constructor
    · exact fun h => Classical.byContradiction fun h2 => hc ⟨k, hk, .inl ⟨h, h2⟩⟩
    · exact fun h => Classical.byContradiction fun h2 => hc ⟨k, hk, .inr ⟨h, h2⟩⟩
  let q : List Nat := (List.range g.ns.length).map fun i => if at_ ls i = at_ (lstS g) i then 1 else 0
  have hq : ∀ j, j < g.ns.length → at_ q j = if at_ ls j = at_ (lstS g) j then 1 else 0 := fun j hj => by
    show at_ ((List.range g.ns.length).map _) j = _
    rw [Pt.at_map (by simpa using hj), Pt.at_range hj]
  have hr : Pt.Resp q (endsL g) := by
    intro x hx
    obtain ⟨k, hk, rfl⟩ := List.mem_iff_getElem.1 hx
    rw [endsL_len] at hk
    have e := endsL_get hk
    rw [List.getElem?_eq_getElem (by rw [endsL_len]; exact hk)] at e
    injection e with e
    rw [e]
    obtain ⟨h1, h2⟩ := ends_lt hv hk
    show at_ q (frN g k) = at_ q (toN g k)
    rw [hq _ h1, hq _ h2]
    have := hall k hk
    unfold Come at this
    by_cases h3 : at_ ls (frN g k) = at_ (lstS g) (frN g k)
    · rw [if_pos h3, if_pos (this.1 h3)]
    · rw [if_neg h3, if_neg (fun h4 => h3 (this.2 h4))]
  have hF := Pt.gen_least (ends_inR hv) hr i (by rw [Pt.genS_length]; exact hi)
  have hroot : at_ (lstS g) i < g.ns.length := by have := (lstS_V hv).lt (i := i) (by rw [lstS_len]; exact hi); rwa [lstS_len] at this
  change at_ q (at_ (lstS g) i) = at_ q i at hF
  rw [hq _ hroot, hq _ hi] at hF
  have hid := (lstS_V hv).idem (i := i) (by rw [lstS_len]; exact hi)
  obtain ⟨r1, r2, _⟩ := hI.2 _ hroot
  rw [hid] at r1
  rw [if_pos (by rw [hid]; omega), if_neg (show ¬ at_ ls i = at_ (lstS g) i from hn)] at hF
  omega
theorem rnd_cnt {g : Gr} (hv : validE g = 0) (r : Nat) : min r g.ns.length ≤ cntC (fun i => decide (at_ (rnd g r) i = at_ (lstS g) i)) g.ns.length := by
  induction r with
  | zero => simp
  | succ r ih =>
    have hmono : ∀ i, i < g.ns.length → decide (at_ (rnd g r) i = at_ (lstS g) i) = true → decide (at_ (rnd g (r + 1)) i = at_ (lstS g) i) = true := fun i hi h => by
      rw [decide_eq_true_eq] at h ⊢
      exact come_to hv (inv_rnd hv r) hi h (Nat.le_refl _)
    by_cases hall : g.ns.length ≤ cntC (fun i => decide (at_ (rnd g r) i = at_ (lstS g) i)) g.ns.length
    · have := cntC_mono hmono
      omega
    · obtain ⟨i, hi, hn⟩ : ∃ i, i < g.ns.length ∧ ¬ Come g (rnd g r) i := Classical.byContradiction fun hc => hall (by
        have : ∀ i, i < g.ns.length → (fun _ : Nat => true) i = true → decide (at_ (rnd g r) i = at_ (lstS g) i) = true := fun i hi _ => by
          rw [decide_eq_true_eq]
          exact Classical.byContradiction fun h => hc ⟨i, hi, h⟩
        have h2 := cntC_mono this
        have h3 : ∀ n, cntC (fun _ : Nat => true) n = n := fun n => by
          induction n with
          | zero => rfl
          | succ n ih => simp only [cntC, ih]; rfl
        rw [h3] at h2
        exact h2)
      obtain ⟨k, hk, h⟩ := come_cross hv (inv_rnd hv r) hi hn
      obtain ⟨k1, k2⟩ := ends_lt hv hk
      have hb := come_edge hv (inv_rnd hv r) hk (h.imp (fun h => h.1) (fun h => h.1)) (Nat.le_refl _) hk
      have hlt : cntC (fun i => decide (at_ (rnd g r) i = at_ (lstS g) i)) g.ns.length < cntC (fun i => decide (at_ (rnd g (r + 1)) i = at_ (lstS g) i)) g.ns.length := by
        rcases h with h | h
        · exact cntC_less k2 hmono (decide_eq_false h.2) (decide_eq_true hb.2)
        · exact cntC_less k1 hmono (decide_eq_false h.2) (decide_eq_true hb.1)
      omega
theorem rnd_all {g : Gr} (hv : validE g = 0) : rnd g g.ns.length = lstS g := by
  apply Pt.ext_at (by rw [rnd_len, lstS_len])
  intro i hi
  rw [rnd_len] at hi
  have := rnd_cnt hv g.ns.length
  rw [Nat.min_self] at this
  simpa using cntC_all this i hi

end Go.Proofs.YtaeelanbkdkppaaDoor
