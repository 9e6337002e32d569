/-
  Types, the program: supertypes, isBelow, ancestors, attributes, slices.Reverse, Clone, Grow, Concat.
-/
import Derived.Test.YtgpcaofikmdpjaaTPc
import Derived.Lib.SliceRun
import Derived.Lib.AppendZeros
namespace Go.Proofs.Ytgpcaofikmdpjaa
open Go.RowKit

/-- a type behind its supertypes, from the root on -/
def chU (t : Typ) : Nat → Int → List Int
  | 0, _ => []
  | f + 1, a => if a < 0 then [] else chU t f (parT t a.toNat) ++ [a]
def chn (t : Typ) (a : Int) : List Int := chU t (a + 1).toNat a
theorem chU_fuel {t : Typ} {n : Nat} (hg : GoodU t n) : ∀ (f g : Nat) (a : Int), -1 ≤ a → a < n → (a + 1).toNat ≤ f → (a + 1).toNat ≤ g → chU t f a = chU t g a := by
  intro f
  induction f with
  | zero =>
    intro g a h1 _ h3 _
    have : a = -1 := by omega
    subst this
    cases g with
    | zero => rfl
    | succ g => simp only [chU]; rw [if_pos (by omega)]
  | succ f ih =>
    intro g a h1 h2 h3 h4
    cases g with
    | zero =>
      have : a = -1 := by omega
      subst this
      simp only [chU]
      rw [if_pos (by omega)]
    | succ g =>
      simp only [chU]
      by_cases h0 : a < 0
      · rw [if_pos h0, if_pos h0]
      · obtain ⟨k, rfl⟩ : ∃ k : Nat, a = k := ⟨a.toNat, by omega⟩
        have hp := hg k (by omega)
        rw [Int.toNat_natCast]
        rw [ih g (parT t k) hp.1 (by omega) (by omega) (by omega)]
theorem chn_none (t : Typ) : chn t (-1) = [] := rfl
theorem chn_step {t : Typ} {n : Nat} (hg : GoodU t n) {k : Nat} (hk : k < n) : chn t k = chn t (parT t k) ++ [(k : Int)] := by
  unfold chn
  have hp := hg k hk
  rw [show ((k : Int) + 1).toNat = k + 1 by omega]
  simp only [chU]
  rw [if_neg (by omega), Int.toNat_natCast]
  rw [chU_fuel hg k (parT t k + 1).toNat (parT t k) hp.1 (by omega) (by omega) (Nat.le_refl _)]
theorem chU_len (t : Typ) : ∀ (f : Nat) (a : Int), (chU t f a).length ≤ f := by
  intro f
  induction f with
  | zero => intro a; exact Nat.le_refl _
  | succ f ih =>
    intro a
    simp only [chU]
    split
    · simp
    · rw [List.length_append]
      have := ih (parT t a.toNat)
      simp; omega
theorem chn_len (t : Typ) (a : Int) : (chn t a).length ≤ (a + 1).toNat := chU_len t _ a
/-- an induction over the supertypes -/
theorem par_ind {t : Typ} {n : Nat} (hg : GoodU t n) {P : Int → Prop} (h0 : P (-1)) (hs : ∀ k : Nat, k < n → P (parT t k) → P k) : ∀ a : Int, -1 ≤ a → a < n → P a := by
  have : ∀ (m : Nat) (a : Int), (a + 1).toNat ≤ m → -1 ≤ a → a < n → P a := by
    intro m
    induction m with
    | zero =>
      intro a h1 h2 _
      have : a = -1 := by omega
      subst this
      exact h0
    | succ m ih =>
      intro a h1 h2 h3
      by_cases h : a = -1
      · subst h; exact h0
      · obtain ⟨k, rfl⟩ : ∃ k : Nat, a = k := ⟨a.toNat, by omega⟩
        have hp := hg k (by omega)
        exact hs k (by omega) (ih (parT t k) (by omega) hp.1 (by omega))
  exact fun a h1 h2 => this _ a (Nat.le_refl _) h1 h2
theorem chn_mem {t : Typ} {n : Nat} (hg : GoodU t n) : ∀ a : Int, -1 ≤ a → a < n → ∀ x ∈ chn t a, 0 ≤ x ∧ x ≤ a := by
  refine par_ind hg (fun x hx => by rw [chn_none] at hx; cases hx) fun k hk ih x hx => ?_
  rw [chn_step hg hk, List.mem_append] at hx
  have hp := hg k hk
  rcases hx with hx | hx
  · have := ih x hx; omega
  · simp at hx; omega
def attOf (t : Typ) (i : Int) : List Att := (t.nodes.getD i.toNat default).att
theorem attL_chn {t : Typ} {n : Nat} (hg : GoodU t n) : ∀ a : Int, -1 ≤ a → a < n → attL t a = (chn t a).flatMap (attOf t) := by
  refine par_ind hg rfl fun k hk ih => ?_
  rw [attL_step hg hk, chn_step hg hk, List.flatMap_append, ih]
  congr 1
  simp [attOf]
theorem bel_gt {t : Typ} (hg : GoodP t) (b : Int) : ∀ a : Int, -1 ≤ a → a < t.nodes.length → a < b → bel t a b = false := by
  refine par_ind (n := t.nodes.length) hg (fun h => by rw [bel_none]; exact decide_eq_false (by omega)) fun k hk ih h => ?_
  have hp := hg k hk
  rw [bel_step hg hk, decide_eq_false (by omega), Bool.false_or]
  exact ih (by omega)
theorem bel_self {t : Typ} (hg : GoodP t) {k : Nat} (hk : k < t.nodes.length) : bel t k k = true := by
  rw [bel_step hg hk, decide_eq_true rfl, Bool.true_or]
theorem ancL_ext {t : Typ} {a a' : Int} {m : Nat} (h : ∀ i : Nat, i < m → bel t a i = bel t a' i) : ancL t a m = ancL t a' m := by
  unfold ancL
  congr 1
  refine List.filter_congr fun i hi => h i (List.mem_range.1 hi)
theorem ancL_stop {t : Typ} {a : Int} {m : Nat} : ∀ d : Nat, (∀ i : Nat, m ≤ i → i < m + d → bel t a i = false) → ancL t a (m + d) = ancL t a m := by
  intro d
  induction d with
  | zero => intro _; rfl
  | succ d ih =>
    intro h
    rw [← Nat.add_assoc, ancL_succ, h (m + d) (by omega) (by omega), ih fun i h1 h2 => h i h1 (by omega)]
    simp
theorem chn_anc {t : Typ} (hg : GoodP t) : ∀ a : Int, -1 ≤ a → a < t.nodes.length → chn t a = ancL t a (a + 1).toNat := by
  refine par_ind (n := t.nodes.length) hg rfl fun k hk ih => ?_
  have hp := hg k hk
  rw [chn_step (n := t.nodes.length) hg hk, show ((k : Int) + 1).toNat = k + 1 by omega, ancL_succ, bel_self hg hk, ih]
  congr 1
  rw [ancL_ext (a := (k : Int)) (a' := parT t k) fun i hi => by rw [bel_step hg hk, decide_eq_false (by omega), Bool.false_or]]
  have e : k = (parT t k + 1).toNat + (k - (parT t k + 1).toNat) := by omega
  rw [show ancL t (parT t k) k = ancL t (parT t k) ((parT t k + 1).toNat + (k - (parT t k + 1).toNat)) by rw [← e]]
  refine (ancL_stop _ fun i h1 h2 => ?_).symm
  exact bel_gt hg i _ hp.1 (by omega) (by omega)
/-- what is below b, asked of a number not above b -/
theorem bel_le {t : Typ} (hg : GoodP t) {a b : Int} (h1 : -1 ≤ a) (h2 : a < t.nodes.length) (hb : 0 ≤ b) (h : a ≤ b) : bel t a b = decide (a = b) := by
  by_cases e : a = b
  · subst e
    obtain ⟨k, rfl⟩ : ∃ k : Nat, a = k := ⟨a.toNat, by omega⟩
    rw [bel_self hg (by omega), decide_eq_true rfl]
  · rw [bel_gt hg b a h1 h2 (by omega), decide_eq_false e]

/-- a list after i exchanges of its ends -/
def rvA (xs : List Int) (i : Nat) : List Int := (List.range xs.length).map fun j => if j < i ∨ xs.length ≤ j + i then xs.getD (xs.length - 1 - j) 0 else xs.getD j 0
theorem rvA_len (xs : List Int) (i : Nat) : (rvA xs i).length = xs.length := by simp [rvA]
theorem rvA_get (xs : List Int) (i j : Nat) (hj : j < xs.length) : (rvA xs i).getD j 0 = if j < i ∨ xs.length ≤ j + i then xs.getD (xs.length - 1 - j) 0 else xs.getD j 0 := by
  rw [List.getD_eq_getElem?_getD, rvA, List.getElem?_map, List.getElem?_range hj]
  rfl
theorem getD_ext {xs ys : List Int} (hl : xs.length = ys.length) (h : ∀ j, j < xs.length → xs.getD j 0 = ys.getD j 0) : xs = ys := by
  refine List.ext_getElem hl fun j h1 h2 => ?_
  have := h j h1
  rwa [List.getD_eq_getElem?_getD, List.getD_eq_getElem?_getD, List.getElem?_eq_getElem h1, List.getElem?_eq_getElem h2] at this
theorem rvA_zero (xs : List Int) : rvA xs 0 = xs := by
  refine getD_ext (rvA_len _ _) fun j hj => ?_
  rw [rvA_len] at hj
  rw [rvA_get _ _ _ hj, if_neg (by omega)]
theorem rvA_end (xs : List Int) {i : Nat} (h : xs.length ≤ 2 * i + 1) : rvA xs i = xs.reverse := by
  refine getD_ext (by rw [rvA_len, List.length_reverse]) fun j hj => ?_
  rw [rvA_len] at hj
  have e : xs.reverse.getD j 0 = xs.getD (xs.length - 1 - j) 0 := by
    rw [List.getD_eq_getElem?_getD, List.getD_eq_getElem?_getD, List.getElem?_reverse hj]
  rw [rvA_get _ _ _ hj, e]
  by_cases h1 : j < i ∨ xs.length ≤ j + i
  · rw [if_pos h1]
  · rw [if_neg h1, show xs.length - 1 - j = j by omega]
theorem getD_set (xs : List Int) (i j : Nat) (m : Int) (hj : j < xs.length) : (xs.set i m).getD j 0 = if i = j then m else xs.getD j 0 := by
  rw [List.getD_eq_getElem?_getD, List.getD_eq_getElem?_getD, List.getElem?_set]
  by_cases h : i = j
  · rw [if_pos h, if_pos h, if_pos (by omega)]; rfl
  · rw [if_neg h, if_neg h]
theorem rvA_step (xs : List Int) {i j : Nat} (hj : i + j + 1 = xs.length) (h : i < j) : ((rvA xs i).set i ((rvA xs i).getD j 0)).set j ((rvA xs i).getD i 0) = rvA xs (i + 1) := by
  refine getD_ext (by rw [List.length_set, List.length_set, rvA_len, rvA_len]) fun p hp => ?_
  rw [List.length_set, List.length_set, rvA_len] at hp
  rw [getD_set _ _ _ _ (by rw [List.length_set, rvA_len]; exact hp), getD_set _ _ _ _ (by rw [rvA_len]; exact hp)]
  rw [rvA_get _ _ p hp, rvA_get _ _ p hp, rvA_get _ _ i (by omega), rvA_get _ _ j (by omega)]
  by_cases e : j = p
  · subst e
    rw [if_pos rfl, if_neg (by omega), if_pos (by omega), show xs.length - 1 - j = i by omega]
  · rw [if_neg e]
    by_cases e2 : i = p
    · subst e2
      rw [if_pos rfl, if_neg (by omega), if_pos (by omega), show xs.length - 1 - i = j by omega]
    · rw [if_neg e2]
      by_cases h1 : p < i ∨ xs.length ≤ p + i
      · rw [if_pos h1, if_pos (by omega)]
      · rw [if_neg h1, if_neg (by omega)]

set_option maxRecDepth 100000 in
set_option maxHeartbeats 1000000 in
theorem isBelow_any (t : Typ) (An : Option Addr) (c : Nat) (hg : GoodP t) (a b : Int) (w : World) (h1 : -1 ≤ a) (h2 : a < t.nodes.length) (h3 : 0 ≤ b) (hT : Nods w w.heap.size An t.nodes) :
    Calls Try.prog 38 #[.slice An t.nodes.length c, .int .i64 a, .int .i64 b] w fun e w' => e = .returned (.bool (bel t a b)) ∧ w = w' := by
  have HT := Lib.hid hT
  have HST : Hid (∀ k : Nat, k < t.nodes.length → b < (k : Int) → bel t k b = bel t (parT t k) b) := Lib.hid fun k hk h => by rw [bel_step hg hk, decide_eq_false (by omega), Bool.false_or]
  have HEND : Hid (∀ x : Int, -1 ≤ x → x < t.nodes.length → x ≤ b → bel t x b = decide (x = b)) := Lib.hid fun x k1 k2 k3 => bel_le hg k1 k2 h3 k3
  have HPR : Hid (∀ k : Nat, k < t.nodes.length → -1 ≤ parT t k ∧ parT t k < k) := Lib.hid hg
  have HPA : Hid (∀ (k : Nat) (hk : k < t.nodes.length), parT t k = t.nodes[k].par) := Lib.hid fun k hk => by unfold parT; rw [getD_at hk]
  generalize hR : bel t a b = R at ⊢
  clear hT hg
  go_enter Try.func38, Try.ntmps38
  go_wp2_with fail
  go_loopw [1] (fun va wr => ∃ x : Int, -1 ≤ x ∧ x < t.nodes.length ∧ va = .int .i64 x ∧ bel t x b = R ∧ wr = w) (fun va _ => (intOf va + 1).toNat)
  case atStart => exact ⟨a, h1, h2, rfl, hR, rfl⟩
  case round =>
    obtain ⟨x, k1, k2, rfl, hx, rfl⟩ := hrel
    by_cases hlt : b < x
    · obtain ⟨k, rfl⟩ : ∃ k : Nat, x = k := ⟨x.toNat, by omega⟩
      have hk : k < t.nodes.length := by omega
      have t1 : decide (b < (k : Int)) = true := decide_eq_true hlt
      obtain ⟨p1, p2⟩ := HPR.out k hk
      have HX : Hid (bel t (parT t k) b = R) := Lib.hid (by rw [← HST.out k hk hlt]; exact hx)
      obtain ⟨b1, off, A', c', rfl, hbb, m0, m1, _⟩ := Nods.cells HT.out hk
      rw [← HPA.out k hk] at m1
      generalize parT t k = pr at *
      have i0 : (0 : Int) ≤ (k : Int) := by omega
      have i1 : (k : Int) < (t.nodes.length : Int) := by omega
      have i2 : ((k : Int)).toNat = k := by omega
      clear hx
      go_wp2_with fail
      go_roundw
      case rel => exact ⟨pr, p1, by omega, rfl, HX.out, trivial⟩
      case measure => simp [intOf]; omega
    · have t1 : decide (b < x) = false := decide_eq_false hlt
      have HX : Hid (R = decide (x = b)) := Lib.hid (by rw [← hx]; exact HEND.out x k1 k2 (by omega))
      clear hx
      by_cases he : x = b
      · subst he
        go_wp2_with fail
        go_ret
        exact ⟨ret_bool (by rw [HX.out]; simp), rfl⟩
      · have t2 : (x == b) = false := by simp [he]
        go_wp2_with fail
        go_ret
        exact ⟨ret_bool (by rw [HX.out, decide_eq_false he]), rfl⟩

set_option maxRecDepth 100000 in
set_option maxHeartbeats 1000000 in
theorem rev_any (xs : List Int) (v : Value) (base : Nat) (w : World) (hl : xs.length ≤ 1000) (hb : base ≤ w.heap.size) (h : OwnI w base v xs) :
    Calls Try.prog 58 #[v] w fun e w' => e = .returned (.tuple #[]) ∧ OwnI w' base v xs.reverse ∧ Below base w w' := by
  rcases Nat.eq_zero_or_pos xs.length with h0 | hp
  · obtain ⟨Ao, co, rfl⟩ := OwnE.slice h
    have HO : Hid (OwnI w base (.slice Ao 0 co) xs.reverse) := Lib.hid (by
      have e : xs = [] := List.length_eq_zero_iff.1 h0
      subst e; exact h)
    rw [h0]
    clear h
    go_enter Try.func58, Try.ntmps58
    go_wp2_with fail
    go_loopw [2, 3] (fun vi vj wr => vi = .int .i64 0 ∧ vj = .int .i64 (-1) ∧ wr = w) (fun _ _ _ => 0)
    case atStart => exact ⟨rfl, rfl, rfl⟩
    case round =>
      obtain ⟨rfl, rfl, rfl⟩ := hrel
      go_wp2_with fail
      go_end0
      exact ⟨rfl, by rw [h0] at *; exact HO.out, Below.refl _ _⟩
  · obtain ⟨g, c, rfl, hg1, hg2⟩ := OwnE.pos h hp
    have HO := Lib.hid h
    have HZ := Lib.hid (rvA_zero xs)
    have HEND : Hid (∀ i, xs.length ≤ 2 * i + 1 → rvA xs i = xs.reverse) := Lib.hid fun i hi => rvA_end xs hi
    have HST : Hid (∀ i j, i + j + 1 = xs.length → i < j → ((rvA xs i).set i ((rvA xs i).getD j 0)).set j ((rvA xs i).getD i 0) = rvA xs (i + 1)) := Lib.hid fun i j hj h => rvA_step xs hj h
    have HLN : Hid (∀ i, xs.length = (rvA xs i).length) := Lib.hid fun i => (rvA_len xs i).symm
    clear h
    go_enter Try.func58, Try.ntmps58
    go_wp2_with fail
    go_loopw [2, 3] (fun vi vj wr => ∃ i : Nat, i ≤ xs.length ∧ vi = .int .i64 i ∧ vj = .int .i64 ((xs.length : Int) - 1 - i) ∧ OwnI wr base (.slice (some ⟨g, 0, none⟩) xs.length c) (rvA xs i) ∧ Below base w wr) (fun vi _ _ => xs.length - (intOf vi).toNat)
    case atStart => exact ⟨0, Nat.zero_le _, rfl, by go_num, by rw [HZ.out]; exact HO.out, Below.refl _ _⟩
    case round =>
      obtain ⟨i, hi, rfl, rfl, hown, hB⟩ := hrel
      by_cases hlt : (i : Int) < (xs.length : Int) - 1 - i
      · obtain ⟨j, hj⟩ : ∃ j : Nat, (xs.length : Int) - 1 - i = j := ⟨((xs.length : Int) - 1 - i).toNat, by omega⟩
        rw [hj] at hlt ⊢
        have t1 : decide ((i : Int) < (j : Int)) = true := decide_eq_true hlt
        have HS := Lib.hid (HST.out i j (by omega) (by omega))
        have hln := HLN.out i
        generalize rvA xs i = ys at HS hown hln
        have m1 := OwnI.cell hln hown (show i < xs.length by omega)
        have m2 := OwnI.cell hln hown (show j < xs.length by omega)
        have f1 := OwnI.free hln hown i
        have f2 := OwnI.free hln hown j
        have HLen := Lib.hid hln
        have HO2 := Lib.hid hown
        have HB := Lib.hid hB
        generalize ys.getD i 0 = x1 at *
        generalize ys.getD j 0 = x2 at *
        have i0 : (0 : Int) ≤ (i : Int) := by omega
        have i1 : (i : Int) < (xs.length : Int) := by omega
        have i2 : ((i : Int)).toNat = i := by omega
        have j0 : (0 : Int) ≤ (j : Int) := by omega
        have j1 : (j : Int) < (xs.length : Int) := by omega
        have j2 : ((j : Int)).toNat = j := by omega
        clear hown hB hln
        go_wp2_with fail
        go_region
        all_goals
          go_wp2_with fail
          go_roundw
          case rel => exact ⟨i + 1, by omega, by go_num, by go_num, by rw [← HS.out]; exact (OwnI.set (by rw [List.length_set]; exact HLen.out) (OwnI.set HLen.out (HO2.out.below (below_draws (Below.refl _ _) _) (Nat.le_refl _)) i x2).1 j x1).1, ((below_draws HB.out _).setCell (p := ⟨g, i, none⟩) hg1 _).setCell (p := ⟨g, j, none⟩) hg1 _⟩
          case measure => simp [intOf]; omega
      · have t1 : decide ((i : Int) < (xs.length : Int) - 1 - i) = false := decide_eq_false hlt
        have HX : Hid (OwnI wr base (.slice (some ⟨g, 0, none⟩) xs.length c) xs.reverse) := Lib.hid (by rw [← HEND.out i (by omega)]; exact hown)
        have HB := Lib.hid hB
        clear hown hB
        go_wp2_with fail
        go_end0
        exact ⟨rfl, HX.out, HB.out⟩

set_option maxRecDepth 100000 in
set_option maxHeartbeats 1000000 in
theorem ancestorsP_any (t : Typ) (An : Option Addr) (n c : Nat) (hg : GoodU t n) (hn : n ≤ t.nodes.length) (h20 : n ≤ 20) (a : Int) (B : Nat) (w : World) (h1 : -1 ≤ a) (h2 : a < n) (hB : B ≤ w.heap.size) (hT : Nods w B An t.nodes) :
    Calls Try.prog 41 #[.slice An n c, .int .i64 a] w fun e w' => (∃ v, e = .returned v ∧ OwnI w' w.heap.size v (chn t a)) ∧ Below w.heap.size w w' := by
  have HT := Lib.hid hT
  have HST : Hid (∀ k : Nat, k < n → chn t k = chn t (parT t k) ++ [(k : Int)]) := Lib.hid fun k hk => chn_step hg hk
  have HPR : Hid (∀ k : Nat, k < n → -1 ≤ parT t k ∧ parT t k < k) := Lib.hid hg
  have HPA : Hid (∀ (k : Nat) (hk : k < t.nodes.length), parT t k = t.nodes[k].par) := Lib.hid fun k hk => by unfold parT; rw [getD_at hk]
  have HNO := Lib.hid (chn_none t)
  have HLN : Hid ((chn t a).length ≤ 20) := Lib.hid (by have := chn_len t a; omega)
  have HSUB : Hid (∀ (u : World), Below w.heap.size w u → Nods u B An t.nodes) := Lib.hid fun u hu => DReads.below hT (hu.mono hB)
  generalize hR : chn t a = R at HLN ⊢
  clear hT hg
  go_enter Try.func41, Try.ntmps41
  go_wp2_with fail
  go_loopw [1, 5] (fun va vo wr => ∃ (x : Int) (L : List Int), -1 ≤ x ∧ x < n ∧ va = .int .i64 x ∧ OwnI wr w.heap.size vo L ∧ chn t x ++ L.reverse = R ∧ Below w.heap.size w wr) (fun va _ _ => (intOf va + 1).toNat)
  case atStart => exact ⟨a, [], h1, h2, rfl, OwnE.nil _ _ _, by rw [hR]; simp, Below.refl _ _⟩
  case round =>
    obtain ⟨x, L, k1, k2, rfl, hown, hx, hBw⟩ := hrel
    by_cases hlt : 0 ≤ x
    · obtain ⟨k, rfl⟩ : ∃ k : Nat, x = k := ⟨x.toNat, by omega⟩
      have hk : k < n := by omega
      have hkl : k < t.nodes.length := by omega
      have t1 : decide (0 ≤ (k : Int)) = true := decide_eq_true hlt
      obtain ⟨p1, p2⟩ := HPR.out k hk
      have hln : L.length ≤ 20 := by have := HLN.out; rw [← hx, List.length_append, List.length_reverse] at this; omega
      have HX : Hid (chn t (parT t k) ++ (L ++ [(k : Int)]).reverse = R) := Lib.hid (by rw [← hx, HST.out k hk, List.reverse_append]; simp)
      obtain ⟨b1, off, A', c', rfl, hbb, m0, m1, _⟩ := Nods.cells (HSUB.out wr hBw) hkl
      rw [← HPA.out k hkl] at m1
      generalize parT t k = pr at *
      have i0 : (0 : Int) ≤ (k : Int) := by omega
      have i1 : (k : Int) < (n : Int) := by omega
      have i2 : ((k : Int)).toNat = k := by omega
      have HO := Lib.hid hown
      have HBw := Lib.hid hBw
      have hsz := hBw.size
      clear hx hown hBw
      go_wp2_with (at_builtin; refine wpList_append_int (w := wr.alloc _) rfl _ _ rfl w.heap.size _ L rfl ?y1 wr.heap.size 1 (k : Int) rfl ?y2 ?y3 ?y4 ?_)
      case y1 => exact HO.out.alloc _
      case y2 => simp
      case y3 => omega
      case y4 => simp; omega
      intro v3 w3 hown3 hg3 hb3
      have HB2 := Lib.hid ((Below.refl wr.heap.size wr).alloc (Nat.le_refl _) (.cells #[.int .i64 (k : Int)] 3 (0, 0)))
      have HB3 := Lib.hid ((HBw.out.alloc hsz _).trans hb3)
      have m3 := (hb3.cell (p := ⟨b1, off + k * 4 + 1, none⟩) (show b1 < _ by omega)).trans ((World.cell?_alloc_lt wr _ _ (show b1 < wr.heap.size by omega)).trans m1)
      have HO3 := Lib.hid hown3
      clear hown3 hg3 hb3 m0 m1
      go_wp2_with fail
      go_roundw
      case rel => exact ⟨pr, L ++ [(k : Int)], p1, by omega, rfl, HO3.out, HX.out, HB3.out⟩
      case measure => simp [intOf]; omega
    · have t1 : decide (0 ≤ x) = false := decide_eq_false hlt
      have e : x = -1 := by omega
      subst e
      have HX : Hid (L.reverse = R) := Lib.hid (by rw [← hx, HNO.out]; rfl)
      have hln : L.length ≤ 20 := by have := HLN.out; rw [← HX.out, List.length_reverse] at this; exact this
      have HREV := Lib.hid (rev_any L _ w.heap.size wr (by omega) hBw.size hown)
      have HBw := Lib.hid hBw
      clear hx hown hBw
      go_wp2_with fail
      refine HREV.out.mono ?_
      rintro e w2 ⟨rfl, ho2, hb2⟩
      rw [HX.out] at ho2
      have HO2 := Lib.hid ho2
      have HB2 := Lib.hid (HBw.out.trans hb2)
      clear ho2 hb2
      go_wp2_with fail
      go_ret
      exact ⟨⟨_, rfl, HO2.out⟩, HB2.out⟩

theorem attOf_len {t : Typ} (h : ∀ x ∈ t.nodes, x.att.length ≤ 30) (i : Int) : (attOf t i).length ≤ 30 := by
  unfold attOf
  rw [List.getD_eq_getElem?_getD]
  cases hx : t.nodes[i.toNat]? with
  | none => exact Nat.zero_le _
  | some x => exact h x (List.mem_of_getElem? hx)
theorem flat_len {t : Typ} (h : ∀ x ∈ t.nodes, x.att.length ≤ 30) : ∀ l : List Int, (l.flatMap (attOf t)).length ≤ 30 * l.length := by
  intro l
  induction l with
  | nil => exact Nat.le_refl _
  | cons x l ih =>
    rw [List.flatMap_cons, List.length_append, List.length_cons]
    have := attOf_len h x
    omega

set_option maxRecDepth 100000 in
set_option maxHeartbeats 2000000 in
theorem attributes_any (t : Typ) (An : Option Addr) (n c : Nat) (hg : GoodU t n) (hn : n ≤ t.nodes.length) (h20 : n ≤ 20) (hatt : ∀ x ∈ t.nodes, x.att.length ≤ 30) (a : Int) (B : Nat) (w : World) (h1 : -1 ≤ a) (h2 : a < n) (hB : B ≤ w.heap.size) (hT : Nods w B An t.nodes) :
    Calls Try.prog 42 #[.slice An n c, .int .i64 a] w fun e w' => AttEnd w.heap.size B (attL t a) e w' ∧ Below w.heap.size w w' := by
  have HANC := Lib.hid (ancestorsP_any t An n c hg hn h20 a B w h1 h2 hB hT)
  have HX : Hid ((chn t a).flatMap (attOf t) = attL t a) := Lib.hid (attL_chn hg a h1 h2).symm
  have HMEM := Lib.hid (chn_mem hg a h1 h2)
  have HLN : Hid ((chn t a).length ≤ 20) := Lib.hid (by have := chn_len t a; omega)
  have HA30 := Lib.hid (attOf_len hatt)
  have HFL := Lib.hid (flat_len hatt)
  have HSUB : Hid (∀ (u : World), Below w.heap.size w u → Nods u B An t.nodes) := Lib.hid fun u hu => DReads.below hT (hu.mono hB)
  have HAT : Hid (∀ (k : Nat) (hk : k < t.nodes.length), attOf t (k : Int) = t.nodes[k].att) := Lib.hid fun k hk => by unfold attOf; rw [Int.toNat_natCast, getD_at hk]
  generalize attL t a = R at HX ⊢
  generalize chn t a = L at HANC HX HMEM HLN
  clear hT hg hatt
  go_enter Try.func42, Try.ntmps42
  go_wp2_with fail
  refine HANC.out.mono ?_
  rintro e w1 ⟨⟨v1, rfl, ho1⟩, hb1⟩
  obtain ⟨A1, c1, rfl, hr1⟩ := OwnE.reads ho1
  have HR1 := Lib.hid hr1
  have HB1 := Lib.hid hb1
  have hz1 : w.heap.size ≤ w1.heap.size := hb1.size
  have hl20 := HLN.out
  clear ho1 hr1 hb1 HANC
  go_wp2_with fail
  go_loopw [5, 12] (fun vo vi wr => ∃ (i : Nat) (ys : List RAtt), i ≤ L.length ∧ vi = .int .i64 i ∧ OwnR wr w1.heap.size vo ys ∧ RawRel wr B ys ((L.take i).flatMap (attOf t)) ∧ Below w1.heap.size w1 wr) (fun _ vi _ => L.length - (intOf vi).toNat)
  case atStart => exact ⟨0, [], Nat.zero_le _, rfl, OwnE.nil _ _ _, RawRel.nil _ _, Below.refl _ _⟩
  case round =>
    obtain ⟨i, ys, hi, rfl, hown, hraw, hBw⟩ := hrel
    by_cases hlt : i < L.length
    · have t1 : decide ((i : Int) < (L.length : Int)) = true := decide_eq_true (by omega)
      obtain ⟨b0, off0, rfl, hb0, m⟩ := Ints.cells (HR1.out.below hBw) hlt
      have m0 := m i hlt
      have e0 : L.getD i 0 = L[i] := by rw [List.getD_eq_getElem?_getD, List.getElem?_eq_getElem hlt]; rfl
      rw [e0] at m0
      have HTK : Hid ((L.take (i + 1)).flatMap (attOf t) = (L.take i).flatMap (attOf t) ++ attOf t L[i]) := Lib.hid (by rw [List.take_succ_eq_append_getElem hlt, List.flatMap_append]; simp)
      obtain ⟨x0, x1⟩ := HMEM.out _ (List.getElem_mem hlt)
      have hyl : ys.length ≤ 600 := by
        have h1 := HFL.out (L.take i)
        rw [← hraw.1, List.length_take] at h1
        omega
      clear m e0
      generalize L[i] = x at *
      obtain ⟨k, rfl⟩ : ∃ k : Nat, x = k := ⟨x.toNat, by omega⟩
      have hk : k < n := by omega
      have hkl : k < t.nodes.length := by omega
      have h30 := HA30.out (k : Int)
      rw [HAT.out k hkl] at HTK h30
      obtain ⟨b1, off, A', c', rfl, hbb, k0, k1', k2', k3, hat⟩ := Nods.cells (HSUB.out wr (HB1.out.trans (hBw.mono hz1))) hkl
      obtain ⟨ro, hro, hrr⟩ := Atts.raw hat
      generalize t.nodes[k].att = al at *
      have hrl := hrr.1
      obtain ⟨q, hq⟩ : ∃ q, q = al.length := ⟨_, rfl⟩
      rw [← hq] at k3 h30 hrl
      have i0 : (0 : Int) ≤ (i : Int) := by omega
      have i1 : (i : Int) < (L.length : Int) := by omega
      have i2 : ((i : Int)).toNat = i := by omega
      have n0 : (0 : Int) ≤ (k : Int) := by omega
      have n1 : (k : Int) < (n : Int) := by omega
      have n2 : ((k : Int)).toNat = k := by omega
      have HO := Lib.hid hown
      have HRW := Lib.hid hraw
      have HRO := Lib.hid hro
      have HRR := Lib.hid hrr
      have HBw := Lib.hid hBw
      have hsz := hBw.size
      clear hown hraw hBw hro hrr hat k0 k1' k2' hq
      go_wp2_with (at_builtin; refine wpList_append_many (E := ERaw) (w := wr) rfl _ _ 35 58 rfl Try.underlying35 infoAtt rfl (by decide) (by decide) w1.heap.size _ ys rfl ?y1 A' q c' B ro rfl ?y2 ?y3 ?y4 ?y5 ?y6 ?_)
      case y1 => exact HO.out
      case y2 => exact hrl.symm
      case y3 => exact HRO.out
      case y4 => omega
      case y5 => omega
      case y6 => omega
      intro v2 w2 hown2 hg2 hb2 _
      have HO2 := Lib.hid hown2
      have HR2 : Hid (RawRel w2 B (ys ++ ro) ((L.take (i + 1)).flatMap (attOf t))) := Lib.hid (by rw [HTK.out]; exact (HRW.out.append HRR.out).below (hb2.mono (by omega)))
      have HB2 := Lib.hid (HBw.out.trans hb2)
      clear hown2 hg2 hb2
      go_wp2_with fail
      go_roundw
      case rel => exact ⟨i + 1, ys ++ ro, by omega, by go_num, HO2.out, HR2.out, HB2.out⟩
      case measure => simp [intOf]; omega
    · have t1 : decide ((i : Int) < (L.length : Int)) = false := decide_eq_false (by omega)
      have HR2 : Hid (RawRel wr B ys R) := Lib.hid (by rw [← HX.out]; rw [List.take_of_length_le (by omega)] at hraw; exact hraw)
      have HO := Lib.hid (OwnE.mono hown hz1)
      have HBw := Lib.hid (HB1.out.trans (hBw.mono hz1))
      clear hown hraw hBw
      go_wp2_with fail
      go_ret
      exact ⟨⟨_, ys, rfl, HO.out, HR2.out⟩, HBw.out⟩

set_option maxRecDepth 100000 in
set_option maxHeartbeats 1000000 in
theorem clone_any (l : List ByteArray) (A : Option Addr) (c B : Nat) (w : World) (hl : l.length ≤ 1000) (hB : B ≤ w.heap.size) (hT : Strs w B A l) :
    Calls Try.prog 43 #[.slice A l.length c] w fun e w' => (∃ v, e = .returned v ∧ OwnS w' w.heap.size v l) ∧ Below w.heap.size w w' := by
  have q56 : ∀ (w : World) (a : Option Addr) (n c n' c' : Nat), (binOp .eql 56 (.slice a n c) (.slice none n' c')).run Try.prog w = .ok (.bool a.isNone) w := fun w a n c n' c' => Lib.run_eql_slice_nil w _ _ a n c n' c' Try.underlying56
  cases A with
  | none =>
    have e : l = [] := by
      rcases hT with h | ⟨b, off, h1, _⟩
      · exact h
      · cases h1
    subst e
    have HO := Lib.hid (OwnE.nil (E := EStr) 9 w w.heap.size)
    go_enter Try.func43, Try.ntmps43
    go_wp2_with fail
    go_ret
    exact ⟨⟨_, rfl, HO.out⟩, Below.refl _ _⟩
  | some p =>
    have HT := Lib.hid hT
    obtain ⟨q, hq⟩ : ∃ q, q = l.length := ⟨_, rfl⟩
    have HQ := Lib.hid hq
    have hq1 : q ≤ 1000 := by omega
    rw [← hq]
    clear hT hq hl
    go_enter Try.func43, Try.ntmps43
    go_wp2_with (at_builtin; refine wpList_append_many (E := EStr) (w := World.alloc w _) rfl _ _ 56 9 rfl Try.underlying56 infoStr rfl (by decide) (by decide) w.heap.size _ [] rfl ?y1 (some p) q c B l rfl ?y2 ?y3 ?y4 ?y5 ?y6 ?_)
    case y1 => exact OwnE.empty (heap_alloc_new _ _) (Nat.le_refl _)
    case y2 => exact HQ.out
    case y3 => exact HT.out.below (((Below.refl _ _).alloc (Nat.le_refl _) _).mono hB)
    case y4 => simp
    case y5 => omega
    case y6 => simp
    intro v2 w2 hown2 hg2 hb2 _
    have HO2 := Lib.hid (hown2.cast (List.nil_append l))
    have HB2 := Lib.hid (((Below.refl _ _).alloc (Nat.le_refl _) _).trans hb2)
    clear hown2 hg2 hb2
    go_wp2_with fail
    go_ret
    exact ⟨⟨_, rfl, HO2.out⟩, HB2.out⟩

theorem zeroCells_size (z : Array Value) (n : Nat) : (Builtin.zeroCells z n).size = n * z.size := by simp [Builtin.zeroCells]

set_option maxRecDepth 100000 in
set_option maxHeartbeats 1000000 in
theorem grow_any (n : Nat) (w : World) (hn : n ≤ 1000) :
    Calls Try.prog 62 #[.slice none 0 0, .int .i64 n] w fun e w' => (∃ v, e = .returned v ∧ OwnR w' w.heap.size v []) ∧ Below w.heap.size w w' := by
  obtain ⟨i0, hi, hz0, hz1, hz2⟩ := info_parts infoAtt
  rcases Nat.eq_zero_or_pos n with h0 | hp
  · subst h0
    have HO := Lib.hid (OwnE.nil (E := ERaw) 58 w w.heap.size)
    go_enter Try.func62, Try.ntmps62
    go_wp2_with fail
    go_ret
    exact ⟨⟨_, rfl, HO.out⟩, Below.refl _ _⟩
  · have HRUN := Lib.hid (fun ty => Lib.run_append_nil_zeros (P := Try.prog) w 35 3 ty 58 i0 _ .i64 .i64 Try.underlying35 Try.underlying3 hi hz0 n hp (by rw [hz1]; decide) (by omega) (by rw [hz2]; omega))
    have hcap := grownCap_ge w n 0 58
    have hmax := grownCap_le_maxLen w n 0 58 (by unfold maxLen; omega)
    generalize grownCap w n 0 58 = cc at HRUN hcap hmax
    have hsz : (Builtin.zeroCells (Value.agg #[.string ⟨#[]⟩, .int .i64 0, .int .i64 0, .slice none 0 0]).cells n ++ Builtin.zeroCells (Value.agg #[.string ⟨#[]⟩, .int .i64 0, .int .i64 0, .slice none 0 0]).cells (cc - n)).size = cc * 4 := by
      rw [Array.size_append, zeroCells_size, zeroCells_size, show (Value.agg #[.string ⟨#[]⟩, .int .i64 0, .int .i64 0, .slice none 0 0]).cells.size = 4 from rfl]
      omega
    generalize Builtin.zeroCells (Value.agg #[.string ⟨#[]⟩, .int .i64 0, .int .i64 0, .slice none 0 0]).cells n ++ Builtin.zeroCells (Value.agg #[.string ⟨#[]⟩, .int .i64 0, .int .i64 0, .slice none 0 0]).cells (cc - n) = cur at HRUN hsz
    have HO : Hid (OwnR (w.drew.alloc (.cells cur 58)) w.heap.size (.slice (some ⟨w.heap.size, 0, none⟩) 0 cc) []) := Lib.hid (World.ownsRow_made w.drew cur cc (Nat.le_refl _) hmax hsz)
    have HB := Lib.hid ((Below.drew (Below.refl w.heap.size w)).alloc (Nat.le_refl _) (.cells cur 58))
    have t1 : decide (0 < (n : Int)) = true := decide_eq_true (by omega)
    have t2 : decide ((n : Int) < 0) = false := decide_eq_false (by omega)
    go_enter Try.func62, Try.ntmps62
    go_wp2_with (at_builtin; refine Lib.wpList_append_run _ rfl _ _ _ _ rfl _ _ rfl rfl _ _ (HRUN.out _) ?_)
    go_ret
    exact ⟨⟨_, rfl, HO.out⟩, HB.out⟩

set_option maxRecDepth 100000 in
set_option maxHeartbeats 2000000 in
theorem concat_any (A1 A2 : Option Addr) (n1 c1 n2 c2 c : Nat) (ys1 ys2 : List RAtt) (h1 : n1 = ys1.length) (h2 : n2 = ys2.length) (l1 : n1 ≤ 400) (l2 : n2 ≤ 400) (w : World) (g B : Nat) (hB : B ≤ w.heap.size)
    (k0 : w.cell? ⟨g, 0, none⟩ = some (.slice A1 n1 c1)) (k1 : w.cell? ⟨g, 1, none⟩ = some (.slice A2 n2 c2)) (hg : g < w.heap.size) (hr1 : Reads ERaw w B A1 ys1) (hr2 : Reads ERaw w B A2 ys2) :
    Calls Try.prog 50 #[.slice (some ⟨g, 0, none⟩) 2 c] w fun e w' => (∃ v, e = .returned v ∧ OwnR w' w.heap.size v (ys1 ++ ys2)) ∧ Below w.heap.size w w' := by
  have HG : Hid (∀ u, Calls Try.prog 62 #[.slice none 0 0, .int .i64 ((n1 : Int) + (n2 : Int))] u fun e w' => (∃ v, e = .returned v ∧ OwnR w' u.heap.size v []) ∧ Below u.heap.size u w') := Lib.hid fun u => by
    have h := grow_any (n1 + n2) u (by omega)
    rwa [Int.natCast_add] at h
  have HR1 := Lib.hid hr1
  have HR2 := Lib.hid hr2
  have H1 := Lib.hid h1
  have H2 := Lib.hid h2
  clear hr1 hr2 h1 h2
  go_enter Try.func50, Try.ntmps50
  go_wp2_with fail
  go_loopw [3, 11] (fun vs vi wr => wr = w ∧ ((vs = .int .i64 0 ∧ vi = .int .i64 0) ∨ (vs = .int .i64 n1 ∧ vi = .int .i64 1) ∨ (vs = .int .i64 ((n1 : Int) + n2) ∧ vi = .int .i64 2))) (fun _ vi _ => 2 - (intOf vi).toNat)
  case atStart => exact ⟨rfl, .inl ⟨rfl, rfl⟩⟩
  case round =>
    obtain ⟨rfl, h | h | h⟩ := hrel
    · obtain ⟨rfl, rfl⟩ := h
      have t1 : decide ((n1 : Int) < 0) = false := decide_eq_false (by omega)
      go_wp2_with fail
      go_roundw
      case rel => exact ⟨trivial, .inr (.inl ⟨by go_num, by go_num⟩)⟩
      case measure => simp [intOf]
    · obtain ⟨rfl, rfl⟩ := h
      have t1 : decide ((n1 : Int) + (n2 : Int) < 0) = false := decide_eq_false (by omega)
      go_wp2_with fail
      go_roundw
      case rel => exact ⟨trivial, .inr (.inr ⟨by go_num, by go_num⟩)⟩
      case measure => simp [intOf]
    · obtain ⟨rfl, rfl⟩ := h
      obtain ⟨wo, hwo⟩ : ∃ wo, wo = wr := ⟨_, rfl⟩
      subst hwo
      go_wp2_with fail
      with_reducible refine (HG.out _).mono ?_
      rintro e w2 ⟨⟨v2, rfl, ho2⟩, hb2⟩
      have HO2 := Lib.hid ho2
      have HB2 := Lib.hid hb2
      have hz2 := hb2.size
      have m0 := (hb2.cell (p := ⟨g, 0, none⟩) hg).trans k0
      have m1 := (hb2.cell (p := ⟨g, 1, none⟩) hg).trans k1
      clear ho2 hb2 k0 k1
      go_wp2_with fail
      go_loopw [6, 27] (fun vo vi wr => (∃ ys, OwnR wr wo.heap.size vo ys ∧ ((vi = .int .i64 0 ∧ ys = []) ∨ (vi = .int .i64 1 ∧ ys = ys1) ∨ (vi = .int .i64 2 ∧ ys = ys1 ++ ys2))) ∧ Below wo.heap.size wo wr) (fun _ vi _ => 2 - (intOf vi).toNat)
      case atStart => exact ⟨⟨[], HO2.out, .inl ⟨rfl, rfl⟩⟩, HB2.out⟩
      case round =>
        obtain ⟨⟨ys, hown, h⟩, hBw⟩ := hrel
        have d0 := (hBw.cell (p := ⟨g, 0, none⟩) hg).trans ((HB2.out.cell (p := ⟨g, 0, none⟩) hg).symm.trans m0)
        have d1 := (hBw.cell (p := ⟨g, 1, none⟩) hg).trans ((HB2.out.cell (p := ⟨g, 1, none⟩) hg).symm.trans m1)
        have hz3 := hBw.size
        have HO := Lib.hid hown
        have HBw := Lib.hid hBw
        clear hown hBw
        rcases h with h | h | h
        · obtain ⟨rfl, rfl⟩ := h
          go_wp2_with (at_builtin; refine wpList_append_many (E := ERaw) (w := wr) rfl _ _ 35 58 rfl Try.underlying35 infoAtt rfl (by decide) (by decide) wo.heap.size _ [] rfl ?y1 A1 n1 c1 B ys1 rfl ?y2 ?y3 ?y4 ?y5 ?y6 ?_)
          case y1 => exact HO.out
          case y2 => exact H1.out
          case y3 => exact HR1.out.below (HBw.out.mono hB)
          case y4 => simp
          case y5 => omega
          case y6 => omega
          intro v3 w3 hown3 hg3 hb3 _
          have HO3 := Lib.hid (hown3.cast (List.nil_append ys1))
          have HB3 := Lib.hid (HBw.out.trans hb3)
          clear hown3 hg3 hb3
          go_wp2_with fail
          go_roundw
          case rel => exact ⟨⟨ys1, HO3.out, .inr (.inl ⟨by go_num, rfl⟩)⟩, HB3.out⟩
          case measure => simp [intOf]
        · obtain ⟨rfl, rfl⟩ := h
          go_wp2_with (at_builtin; refine wpList_append_many (E := ERaw) (w := wr) rfl _ _ 35 58 rfl Try.underlying35 infoAtt rfl (by decide) (by decide) wo.heap.size _ ys rfl ?y1 A2 n2 c2 B ys2 rfl ?y2 ?y3 ?y4 ?y5 ?y6 ?_)
          case y1 => exact HO.out
          case y2 => exact H2.out
          case y3 => exact HR2.out.below (HBw.out.mono hB)
          case y4 => have := H1.out; omega
          case y5 => omega
          case y6 => omega
          intro v3 w3 hown3 hg3 hb3 _
          have HO3 := Lib.hid hown3
          have HB3 := Lib.hid (HBw.out.trans hb3)
          clear hown3 hg3 hb3
          go_wp2_with fail
          go_roundw
          case rel => exact ⟨⟨_, HO3.out, .inr (.inr ⟨by go_num, rfl⟩)⟩, HB3.out⟩
          case measure => simp [intOf]
        · obtain ⟨rfl, rfl⟩ := h
          go_wp2_with fail
          go_ret
          exact ⟨⟨_, rfl, HO.out⟩, HBw.out⟩

end Go.Proofs.Ytgpcaofikmdpjaa
