/-
  Contracts of partition's Generate and Quotient (stage 2's texts, for the functions that graph calls).
-/
import Derived.Test.YtiafmhdicgmfaaaPtPlain
import Derived.Test.YtiafmhdicgmfaaaProg
import Derived.WalkKit
import Derived.WalkSpells
import Derived.WalkLawsBesides
import Derived.Lib.Hide
import Derived.BigQuiet
import Derived.Deep.QuietTactic
import Derived.StillTailTactics
import Derived.IntWalk
import Derived.ArgAppend
namespace Go.Proofs.Ytiafmhdicgmfaaa.Pt
open Go.RowKit


theorem ret_bool {a b : Bool} (h : a = b) : Ending.returned (.bool a) = .returned (.bool b) := by rw [h]
theorem ret_int {k : IntKind} {a b : Int} (h : a = b) : Ending.returned (.int k a) = .returned (.int k b) := by rw [h]

def toI (ys : List Nat) : List Int := ys.map fun n : Nat => (n : Int)
theorem toI_length (ys : List Nat) : (toI ys).length = ys.length := by simp [toI]
theorem toI_get? (ys : List Nat) (i : Nat) : (toI ys)[i]? = ys[i]?.map fun n : Nat => (n : Int) := by simp [toI]
theorem toI_at (ys : List Nat) (i : Nat) : (toI ys).getD i 0 = (at_ ys i : Int) := by
  simp only [List.getD, toI_get?, at_]
  cases ys[i]? <;> simp
theorem toI_inj {a b : List Nat} (h : toI a = toI b) : a = b := by
  have hl : a.length = b.length := by have := congrArg List.length h; simpa [toI] using this
  apply ext_at hl
  intro i _
  have := congrArg (fun l => l.getD i (0 : Int)) h
  simp only [toI_at] at this
  omega

/-- the slice at A reads as xs, in a block below B -/
def Ints (w : World) (B : Nat) (A : Option Addr) (xs : List Int) : Prop :=
  xs = [] ∨ ∃ b off, A = some ⟨b, off, none⟩ ∧ b < B ∧ ∀ i x, xs[i]? = some x → w.cell? ⟨b, off + i, none⟩ = some (.int .i64 x)

theorem getD_get {xs : List Int} {i : Nat} (h : i < xs.length) : xs[i]? = some (xs.getD i 0) := by simp [List.getD, h]

theorem Ints.at {w : World} {B : Nat} {A : Option Addr} {xs : List Int} (h : Ints w B A xs) {k : Nat} (hk : k < xs.length) :
    ∃ b off, A = some ⟨b, off, none⟩ ∧ b < B ∧ ∀ i, i < xs.length → w.cell? ⟨b, off + i, none⟩ = some (.int .i64 (xs.getD i 0)) := by
  rcases h with h | ⟨b, off, h1, h2, h3⟩
  · subst h; simp at hk
  · exact ⟨b, off, h1, h2, fun i hi => h3 i _ (getD_get hi)⟩

theorem Ints.atN {w : World} {B : Nat} {A : Option Addr} {ys : List Nat} (h : Ints w B A (toI ys)) {k : Nat} (hk : k < ys.length) :
    ∃ b off, A = some ⟨b, off, none⟩ ∧ b < B ∧ ∀ i, i < ys.length → w.cell? ⟨b, off + i, none⟩ = some (.int .i64 (at_ ys i : Nat)) := by
  obtain ⟨b, off, h1, h2, h3⟩ := h.at (k := k) (by rw [toI_length]; exact hk)
  exact ⟨b, off, h1, h2, fun i hi => by rw [h3 i (by rw [toI_length]; exact hi), toI_at]⟩

theorem Ints.below {w w' : World} {B : Nat} {A : Option Addr} {xs : List Int} (h : Ints w B A xs) (hb : Below B w w') : Ints w' B A xs := by
  rcases h with h | ⟨b, off, h1, h2, h3⟩
  · exact .inl h
  · exact .inr ⟨b, off, h1, h2, fun i x hx => (hb.cell (p := ⟨b, off + i, none⟩) h2).trans (h3 i x hx)⟩
theorem Ints.mono {w : World} {B B' : Nat} {A : Option Addr} {xs : List Int} (h : Ints w B A xs) (hb : B ≤ B') : Ints w B' A xs := by
  rcases h with h | ⟨b, off, h1, h2, h3⟩
  · exact .inl h
  · exact .inr ⟨b, off, h1, by omega, h3⟩
theorem Ints.up {w w' : World} {A : Option Addr} {xs : List Int} (h : Ints w w.heap.size A xs) (hb : Below w.heap.size w w') : Ints w' w'.heap.size A xs :=
  (h.below hb).mono hb.size

/-- the cells of ints -/
def cellsI (xs : List Int) : List Value := xs.map (Value.int .i64)
def cellsN (ys : List Nat) : List Value := ys.map fun n : Nat => Value.int .i64 (n : Int)
theorem cellsI_toI (ys : List Nat) : cellsI (toI ys) = cellsN ys := by simp [cellsI, toI, cellsN]
theorem cellsN_length (ys : List Nat) : (cellsN ys).length = ys.length := by simp [cellsN]
theorem cellsN_snoc (ys : List Nat) (n : Nat) : cellsN (ys ++ [n]) = cellsN ys ++ [.int .i64 (n : Int)] := by simp [cellsN]
theorem cellsN_set (ys : List Nat) (j n : Nat) : (cellsN ys).set j (.int .i64 (n : Int)) = cellsN (ys.set j n) := by simp [cellsN, List.map_set]
theorem cellsN_get {ys : List Nat} {i : Nat} (h : i < ys.length) : (cellsN ys)[i]? = some (.int .i64 (at_ ys i : Nat)) := by simp [cellsN, at_, h]
theorem cellsN_replicate (n : Nat) : cellsN (List.replicate n 0) = List.replicate n (.int .i64 0) := by simp [cellsN]
theorem cellsI_one (xs : List Int) : ∀ u ∈ cellsI xs, u.oneCell' = true := by
  intro u hu
  simp only [cellsI, List.mem_map] at hu
  obtain ⟨x, _, rfl⟩ := hu
  rfl

theorem addr_plain (b off j : Nat) : (⟨b, off, none⟩ : Addr).add j = ⟨b, off + j, none⟩ := Addr.add_lit _ _ _

theorem slice_of {w : World} {base : Nat} {e : TypeId} {size : Nat} {v : Value} {n : Nat} {xs : List Value} (h : w.ownsRow base e size v n xs) : ∃ ao cap, v = .slice ao n cap := by
  rcases h.2 with ⟨hv, h0⟩ | ⟨g, cap, cur, hv, _⟩
  · exact ⟨none, 0, by rw [hv, h0]⟩
  · exact ⟨_, _, hv⟩

/-- a slice that a call made -/
abbrev Own (w : World) (base : Nat) (v : Value) (ys : List Nat) : Prop := w.ownsRow base 3 1 v ys.length (cellsN ys)

theorem Own.ints {w : World} {base : Nat} {v : Value} {ys : List Nat} (h : Own w base v ys) : ∃ A c, v = .slice A ys.length c ∧ Ints w w.heap.size A (toI ys) := by
  have h0 := h
  rcases h.2 with ⟨hv, hn⟩ | ⟨g, cap, cur, hv, hb, hg, _⟩
  · exact ⟨none, 0, by rw [hv, hn], .inl (by rw [List.eq_nil_of_length_eq_zero hn]; rfl)⟩
  · refine ⟨_, _, hv, .inr ⟨g, 0, rfl, (h0.lt g (by rw [hv]; rfl)).2, fun i x hx => ?_⟩⟩
    have hc := h0.cells (g := g) (by rw [hv]; rfl)
    rw [toI_get?] at hx
    have hi : i < ys.length := by
      rcases Nat.lt_or_ge i ys.length with h1 | h1
      · exact h1
      · rw [List.getElem?_eq_none h1] at hx; cases hx
    rw [at_get? hi] at hx
    simp at hx
    have := hc i _ (cellsN_get hi)
    rw [addr_plain] at this
    rw [this, hx]

theorem Own.below {w w' : World} {base B : Nat} {v : Value} {ys : List Nat} (h : Own w base v ys) (hb : Below B w w') (hB : w.heap.size ≤ B) : Own w' base v ys := by
  refine ⟨h.1, ?_⟩
  rcases h.2 with hn | ⟨g, cap, cur, hv, hbg, hg, rest⟩
  · exact .inl hn
  · exact .inr ⟨g, cap, cur, hv, hbg, by rw [hb.block g (Nat.lt_of_lt_of_le (h.lt g (by rw [hv]; rfl)).2 hB)]; exact hg, rest⟩

theorem below_draws {B : Nat} {a w : World} (h : Below B a w) (n : Nat) : Below B a (w.drewN n) := ⟨h.os, h.tape, h.output, h.size, h.block⟩

theorem infoInt : (Try.prog.info? 3).map (fun i => (i.zero, i.size, i.bytes)) = some (some (.int .i64 0), 1, 8) := by kernel_rfl



def okI (xs : List Int) (i : Nat) : Bool := decide (0 ≤ xs.getD i 0) && decide (xs.getD i 0 ≤ i) && xs.getD (xs.getD i 0).toNat 0 == xs.getD i 0
def validI (xs : List Int) : Bool := decide (∀ i, i < xs.length → okI xs i = true)
def checkS (xs : List Int) : Nat := if 80 < xs.length then 3 else if validI xs then 0 else 1

theorem validI_iff {xs : List Int} : validI xs = true ↔ ∀ i, i < xs.length → okI xs i = true := by simp [validI]
theorem valid_bad {xs : List Int} {i : Nat} (h : i < xs.length) (hb : okI xs i = false) : validI xs = false := by
  rw [Bool.eq_false_iff]
  intro hv
  rw [validI_iff.1 hv i h] at hb
  cases hb
theorem okI_low {xs : List Int} {i : Nat} (h : xs.getD i 0 < 0) : okI xs i = false := by unfold okI; rw [decide_eq_false (by omega)]; rfl
theorem okI_high {xs : List Int} {i : Nat} (h : (i : Int) < xs.getD i 0) : okI xs i = false := by unfold okI; rw [decide_eq_false (p := xs.getD i 0 ≤ i) (by omega)]; simp
theorem okI_mid {xs : List Int} {i n : Nat} (h : xs.getD i 0 = n) (hn : n ≤ i) : okI xs i = (xs.getD n 0 == (n : Int)) := by
  unfold okI
  rw [h, decide_eq_true (by omega), decide_eq_true (by omega)]
  simp
theorem okI_toI {ys : List Nat} (h : V ys) {i : Nat} (hi : i < ys.length) : okI (toI ys) i = true := by
  have h1 := h.le hi
  have h2 := h.idem hi
  rw [okI_mid (n := at_ ys i) (toI_at ys i) h1, toI_at, h2]
  simp
theorem valid_toI {ys : List Nat} (h : V ys) : validI (toI ys) = true := validI_iff.2 fun i hi => okI_toI h (by rw [toI_length] at hi; exact hi)

theorem valid_nat {xs : List Int} (h : validI xs = true) : ∃ ys : List Nat, xs = toI ys ∧ V ys := by
  have hv := validI_iff.1 h
  have hb : ∀ i, i < xs.length → ∃ n : Nat, xs.getD i 0 = n ∧ n ≤ i ∧ xs.getD n 0 = n := by
    intro i hi
    have := hv i hi
    simp only [okI, Bool.and_eq_true, decide_eq_true_eq, beq_iff_eq] at this
    obtain ⟨⟨h1, h2⟩, h3⟩ := this
    refine ⟨(xs.getD i 0).toNat, by omega, by omega, ?_⟩
    rw [h3]
    omega
  refine ⟨xs.map Int.toNat, ?_, ?_⟩
  · apply List.ext_getElem (by simp [toI])
    intro i h1 h2
    obtain ⟨n, hn, _⟩ := hb i h1
    have e : xs[i] = xs.getD i 0 := by simp [List.getD, h1]
    simp only [toI, List.map_map, List.getElem_map, Function.comp_apply, e, hn]
    rfl
  · intro i hi
    simp only [List.length_map] at hi
    have e : ∀ j, j < xs.length → at_ (xs.map Int.toNat) j = (xs.getD j 0).toNat := by
      intro j hj
      simp [at_, List.getD, hj]
    obtain ⟨n, hn, hle, hid⟩ := hb i hi
    rw [e i hi, hn, Int.toNat_natCast, e n (by omega), hid, Int.toNat_natCast]
    exact ⟨hle, rfl⟩

theorem checkS_long {xs : List Int} (h : 80 < xs.length) : checkS xs = 3 := by unfold checkS; rw [if_pos h]
theorem checkS_ok {xs : List Int} (h : xs.length ≤ 80) (hv : validI xs = true) : checkS xs = 0 := by unfold checkS; rw [if_neg (by omega), if_pos hv]
theorem checkS_bad {xs : List Int} (h : xs.length ≤ 80) (hv : validI xs = false) : checkS xs = 1 := by unfold checkS; rw [if_neg (by omega), hv]; rfl
theorem checkS_cases (xs : List Int) : checkS xs = 3 ∧ 80 < xs.length ∨ checkS xs = 1 ∨ (checkS xs = 0 ∧ xs.length ≤ 80 ∧ validI xs = true) := by
  by_cases h : 80 < xs.length
  · exact .inl ⟨checkS_long h, h⟩
  · cases hv : validI xs with
    | false => exact .inr (.inl (checkS_bad (by omega) hv))
    | true => exact .inr (.inr ⟨checkS_ok (by omega) hv, by omega, rfl⟩)

theorem isBelow_yes (i n : Int) (h0 : 0 ≤ i) (h1 : i < n) (w : World) : Calls Try.prog 69 #[.int .i64 i, .int .i64 n] w fun e w' => e = .returned (.bool true) ∧ w = w' := by
  go_enter Try.func69, Try.ntmps69
  go_wp2
  go_ret
  exact ⟨rfl, rfl⟩
theorem isBelow_low (i n : Int) (h0 : i < 0) (w : World) : Calls Try.prog 69 #[.int .i64 i, .int .i64 n] w fun e w' => e = .returned (.bool false) ∧ w = w' := by
  go_enter Try.func69, Try.ntmps69
  go_wp2
  go_ret
  exact ⟨rfl, rfl⟩
theorem isBelow_high (i n : Int) (h0 : 0 ≤ i) (h1 : n ≤ i) (w : World) : Calls Try.prog 69 #[.int .i64 i, .int .i64 n] w fun e w' => e = .returned (.bool false) ∧ w = w' := by
  go_enter Try.func69, Try.ntmps69
  go_wp2
  go_ret
  exact ⟨ret_bool (decide_eq_false (by omega)), rfl⟩

set_option maxHeartbeats 1000000 in
theorem check_any (xs : List Int) (A : Option Addr) (c B : Nat) (w : World) (hl : xs.length ≤ maxLen) (hT : Ints w B A xs) :
    Calls Try.prog 72 #[.slice A xs.length c] w fun e w' => e = .returned (.int .i64 (checkS xs)) ∧ w = w' := by
  unfold maxLen at hl
  by_cases h80 : 80 < xs.length
  · have H := Lib.hid (checkS_long h80)
    clear hT
    go_enter Try.func72, Try.ntmps72
    go_wp2
    go_ret
    exact ⟨ret_int (by rw [H.out]; rfl), rfl⟩
  · have HT := Lib.hid hT
    have HL := Lib.hid h80
    have hl8 : xs.length ≤ 80 := by omega
    clear hT hl h80
    go_enter Try.func72, Try.ntmps72
    go_wp2_with fail
    go_loop [10] (fun i => ∃ k : Nat, k ≤ xs.length ∧ i = .int .i64 k ∧ ∀ j, j < k → okI xs j = true) (fun i => xs.length - (intOf i).toNat)
    case atStart => exact ⟨0, Nat.zero_le _, rfl, fun j hj => by omega⟩
    case round =>
      obtain ⟨k, hk, rfl, hok⟩ := hrel
      have HK := Lib.hid hok
      clear hok
      by_cases hlt : k < xs.length
      · obtain ⟨b, off, rfl, hb, hc⟩ := HT.out.at hlt
        have ck := hc k hlt
        have HC := Lib.hid hc
        clear hc
        by_cases h1 : xs.getD k 0 < 0
        · have H := Lib.hid (checkS_bad hl8 (valid_bad hlt (okI_low h1)))
          generalize xs.getD k 0 = x at ck h1
          go_wp2_with fail
          refine (isBelow_low _ _ h1 _).mono ?_
          rintro e w' ⟨rfl, rfl⟩
          go_wp2_with fail
          go_ret
          exact ⟨ret_int (by rw [H.out]; rfl), rfl⟩
        · by_cases h2 : (k : Int) < xs.getD k 0
          · have H := Lib.hid (checkS_bad hl8 (valid_bad hlt (okI_high h2)))
            generalize xs.getD k 0 = x at ck h1 h2
            go_wp2_with fail
            refine (isBelow_high _ _ (by omega) (by omega) _).mono ?_
            rintro e w' ⟨rfl, rfl⟩
            go_wp2_with fail
            go_ret
            exact ⟨ret_int (by rw [H.out]; rfl), rfl⟩
          · obtain ⟨n, hn⟩ : ∃ n : Nat, xs.getD k 0 = n := ⟨(xs.getD k 0).toNat, by omega⟩
            have hnk : n ≤ k := by omega
            rw [hn] at ck
            have HO := Lib.hid (okI_mid hn hnk)
            have cn := HC.out n (by omega)
            clear hn h1 h2
            generalize xs.getD n 0 = y at HO cn
            cases hy : (y == (n : Int)) with
            | false =>
              have H := Lib.hid (checkS_bad hl8 (valid_bad hlt (HO.out.trans hy)))
              have t1 : (y != (n : Int)) = true := by simp [bne, hy]
              clear hy
              go_wp2_with fail
              refine (isBelow_yes _ _ (by omega) (by omega) _).mono ?_
              rintro e w' ⟨rfl, rfl⟩
              go_wp2_with fail
              go_ret
              exact ⟨ret_int (by rw [H.out]; rfl), rfl⟩
            | true =>
              have H := Lib.hid (HO.out.trans hy)
              have t1 : (y != (n : Int)) = false := by simp [bne, hy]
              clear hy
              go_wp2_with fail
              refine (isBelow_yes _ _ (by omega) (by omega) _).mono ?_
              rintro e w' ⟨rfl, rfl⟩
              go_wp2_with fail
              go_round
              case rel => exact ⟨k + 1, by omega, by go_num, fun j hj => by
                by_cases e : j = k
                · subst e; exact H.out
                · exact HK.out j (by omega)⟩
              case measure => simp [intOf]; omega
      · have H := Lib.hid (checkS_ok hl8 (validI_iff.2 fun j hj => HK.out j (by omega)))
        go_wp2
        go_ret
        exact ⟨ret_int (by rw [H.out]; rfl), rfl⟩

/-- the error of two lists that have to be partitions of one length -/
def bothS (a b : List Int) : Nat :=
  if 80 < a.length ∨ 80 < b.length then 3 else if validI a = false ∨ validI b = false then 1 else if a.length ≠ b.length then 20 else 0

theorem bothS_cases (a b : List Int) : (bothS a b = 3 ∧ (80 < a.length ∨ a.length ≤ 80 ∧ 80 < b.length)) ∨
    (bothS a b = 1 ∧ a.length ≤ 80 ∧ b.length ≤ 80 ∧ (validI a = false ∨ validI a = true ∧ validI b = false)) ∨
    (bothS a b = 20 ∧ a.length ≤ 80 ∧ b.length ≤ 80 ∧ validI a = true ∧ validI b = true ∧ a.length ≠ b.length) ∨
    (bothS a b = 0 ∧ a.length ≤ 80 ∧ b.length ≤ 80 ∧ validI a = true ∧ validI b = true ∧ a.length = b.length) := by
  unfold bothS
  by_cases h1 : 80 < a.length
  · simp [h1]
  · by_cases h2 : 80 < b.length
    · simp [h1, h2]; omega
    · cases ha : validI a <;> cases hb : validI b <;> by_cases hl : a.length = b.length <;> simp [h1, h2, hl] <;> omega

def sizeS (n m : Int) : Nat := if m < n then 3 else if n < 0 then 6 else 0
theorem checkSize_any (n m : Int) (w : World) : Calls Try.prog 68 #[.int .i64 n, .int .i64 m] w fun e w' => e = .returned (.int .i64 (sizeS n m)) ∧ w = w' := by
  by_cases h1 : m < n
  · have H := Lib.hid (show sizeS n m = 3 by unfold sizeS; rw [if_pos h1])
    have hd : decide (m < n) = true := decide_eq_true h1
    go_enter Try.func68, Try.ntmps68
    go_wp2_with fail
    go_ret
    exact ⟨ret_int (by rw [H.out]; rfl), rfl⟩
  · have hd : decide (m < n) = false := decide_eq_false h1
    by_cases h2 : n < 0
    · have H := Lib.hid (show sizeS n m = 6 by unfold sizeS; rw [if_neg h1, if_pos h2])
      clear h1
      go_enter Try.func68, Try.ntmps68
      go_wp2_with fail
      go_ret
      exact ⟨ret_int (by rw [H.out]; rfl), rfl⟩
    · have H := Lib.hid (show sizeS n m = 0 by unfold sizeS; rw [if_neg h1, if_neg h2])
      clear h1
      go_enter Try.func68, Try.ntmps68
      go_wp2_with fail
      go_ret
      exact ⟨ret_int (by rw [H.out]; rfl), rfl⟩



theorem grown_trans {a b c : World} {r : Option Nat} (h : a.grownBy b r) (k : b.grownBy c r) : a.grownBy c r :=
  ⟨k.os.trans h.os, k.tape.trans h.tape, k.output.trans h.output, Nat.le_trans h.size k.size, fun i hi hr => (k.block i (Nat.lt_of_lt_of_le hi h.size) hr).trans (h.block i hi hr)⟩
theorem grown_refl (a : World) (r : Option Nat) : a.grownBy a r := ⟨rfl, rfl, rfl, Nat.le_refl _, fun _ _ _ => rfl⟩
theorem grown_draws (a : World) (n : Nat) (r : Option Nat) : a.grownBy (a.drewN n) r := ⟨rfl, rfl, rfl, Nat.le_refl _, fun _ _ _ => rfl⟩
theorem grown_below {w w' : World} {g base : Nat} (h : w.grownBy w' (some g)) (hg : base ≤ g) (hb : base ≤ w.heap.size) : Below base w w' :=
  (Below.refl base w).grown h hb (by intro k hk; cases hk; exact hg)

/-- f applied to the first j -/
def mapTo (f : Nat → Nat) (j : Nat) (ys : List Nat) : List Nat := (ys.take j).map f ++ ys.drop j
theorem mapTo_zero (f : Nat → Nat) (ys : List Nat) : mapTo f 0 ys = ys := by simp [mapTo]
theorem mapTo_all (f : Nat → Nat) (ys : List Nat) {j : Nat} (h : ys.length ≤ j) : mapTo f j ys = ys.map f := by
  unfold mapTo
  rw [List.take_of_length_le h, List.drop_eq_nil_of_le h, List.append_nil]
theorem mapTo_length (f : Nat → Nat) (j : Nat) (ys : List Nat) : (mapTo f j ys).length = ys.length := by simp [mapTo]; omega
theorem mapTo_at (f : Nat → Nat) {j : Nat} {ys : List Nat} : at_ (mapTo f j ys) j = at_ ys j := by
  unfold mapTo at_
  rcases Nat.lt_or_ge j ys.length with h | h
  · simp [List.getD, List.getElem?_append, Nat.min_eq_left (Nat.le_of_lt h)]
  · have : ((ys.take j).map f ++ ys.drop j).length ≤ j := by simp; omega
    rw [List.getD_eq_getElem?_getD, List.getD_eq_getElem?_getD, List.getElem?_eq_none this, List.getElem?_eq_none h]
theorem mapTo_set (f : Nat → Nat) {j : Nat} {ys : List Nat} (h : j < ys.length) : (mapTo f j ys).set j (f (at_ ys j)) = mapTo f (j + 1) ys := by
  unfold mapTo
  rw [List.take_succ_eq_append_getElem h, List.map_append, List.set_append_right _ _ (by simp; omega)]
  have e : j - ((ys.take j).map f).length = 0 := by simp; omega
  rw [e, List.drop_eq_getElem_cons h, List.set_cons_zero]
  simp [at_, h]
theorem mapTo_keep (f : Nat → Nat) {j : Nat} {ys : List Nat} (h : j < ys.length) (hf : f (at_ ys j) = at_ ys j) : mapTo f (j + 1) ys = mapTo f j ys := by
  rw [← mapTo_set f h, hf]
  apply List.ext_getElem (by simp)
  intro i h1 h2
  rw [List.getElem_set]
  split
  · subst i
    have := mapTo_at f (j := j) (ys := ys)
    simp only [at_, List.getD, List.getElem?_eq_getElem h2] at this
    simp only [at_, List.getD]
    simpa using this.symm
  · rfl

theorem Own.cell {w : World} {base g c : Nat} {ys : List Nat} (h : Own w base (.slice (some ⟨g, 0, none⟩) ys.length c) ys) {j : Nat} (hj : j < ys.length) : w.cell? ⟨g, j, none⟩ = some (.int .i64 (at_ ys j : Nat)) := by
  rw [World.ownsRow.cellAt h j (by omega), cellsN_get hj]
theorem Own.set {w : World} {base g c n : Nat} {ys : List Nat} (hn : n = ys.length) (h : Own w base (.slice (some ⟨g, 0, none⟩) n c) ys) (j m : Nat) :
    Own (w.setCell ⟨g, j, none⟩ (.int .i64 (m : Int))) base (.slice (some ⟨g, 0, none⟩) n c) (ys.set j m) ∧ w.grownBy (w.setCell ⟨g, j, none⟩ (.int .i64 (m : Int))) (some g) := by
  subst hn
  have := World.ownsRow.stored h j (.int .i64 (m : Int))
  rw [cellsN_set] at this
  refine ⟨?_, this.2⟩
  have e : (ys.set j m).length = ys.length := by simp
  unfold Own
  rw [e]
  exact this.1
theorem Own.grown {w w' : World} {base g : Nat} {v : Value} {ys : List Nat} (h : Own w base v ys) (hg : w.grownBy w' (some g)) (hne : v.ownBlock ≠ some g) : Own w' base v ys := World.ownsRow.kept h hg (.inr hne)

def toLow (lo hi : Nat) (x : Nat) : Nat := if x = hi then lo else x
theorem mergeS_lt {ys : List Nat} {i k : Nat} (h : at_ ys i < at_ ys k) : mergeS ys i k = ys.map (toLow (at_ ys i) (at_ ys k)) := by
  unfold mergeS toLow
  rw [Nat.max_eq_right (Nat.le_of_lt h), Nat.min_eq_left (Nat.le_of_lt h)]
theorem mergeS_gt {ys : List Nat} {i k : Nat} (h : at_ ys k < at_ ys i) : mergeS ys i k = ys.map (toLow (at_ ys k) (at_ ys i)) := by
  unfold mergeS toLow
  rw [Nat.max_eq_left (Nat.le_of_lt h), Nat.min_eq_right (Nat.le_of_lt h)]
theorem mergeS_eq {ys : List Nat} {i k : Nat} (h : at_ ys i = at_ ys k) : mergeS ys i k = ys := by
  unfold mergeS
  rw [h, Nat.max_self, Nat.min_self]
  have : (fun x => if x = at_ ys k then at_ ys k else x) = id := by
    funext x
    show (if x = at_ ys k then at_ ys k else x) = x
    split
    · rename_i e; exact e.symm
    · rfl
  rw [this, List.map_id]

set_option maxHeartbeats 2000000 in
theorem merge_any (ys : List Nat) (g c base i k : Nat) (w : World) (hi : i < ys.length) (hk : k < ys.length) (hl : ys.length ≤ 1000000)
    (hown : Own w base (.slice (some ⟨g, 0, none⟩) ys.length c) ys) :
    Calls Try.prog 71 #[.slice (some ⟨g, 0, none⟩) ys.length c, .int .i64 i, .int .i64 k] w fun e w' =>
      e = .returned (.tuple #[]) ∧ Own w' base (.slice (some ⟨g, 0, none⟩) ys.length c) (mergeS ys i k) ∧ w.grownBy w' (some g) := by
  have ci := hown.cell hi
  have ck := hown.cell hk
  have HO := Lib.hid hown
  have hi0 : (0 : Int) ≤ (i : Int) := by omega
  have hi1 : (i : Int) < (ys.length : Int) := by omega
  have hi2 : ((i : Int)).toNat = i := by omega
  have hk0 : (0 : Int) ≤ (k : Int) := by omega
  have hk1 : (k : Int) < (ys.length : Int) := by omega
  have hk2 : ((k : Int)).toNat = k := by omega
  clear hown
  rcases Nat.lt_trichotomy (at_ ys i) (at_ ys k) with h | h | h
  case inr.inl =>
    have H := Lib.hid (mergeS_eq h)
    rw [h] at ci
    generalize at_ ys k = x at ci ck
    clear h
    have t1 : ((x : Int) == (x : Int)) = true := by simp
    go_enter Try.func71, Try.ntmps71
    go_wp2_with fail
    go_quiet (fail)
    go_wp2_with fail
    refine bodyPost_ret (v := .tuple #[]) (results_none rfl _ _ _) rfl ?_
    exact ⟨rfl, by rw [H.out]; exact HO.out, grown_draws _ _ _⟩
  case' inl =>
    have H := Lib.hid (mergeS_lt h)
    generalize at_ ys i = lo at H ci h
    generalize at_ ys k = hi at H ck h
  case' inr.inr =>
    have H := Lib.hid (mergeS_gt h)
    generalize at_ ys k = lo at H ck h
    generalize at_ ys i = hi at H ci h
  all_goals
    have t1 : ((lo : Int) == (hi : Int)) = false := by simp; omega
    have t2 : ((hi : Int) == (lo : Int)) = false := by simp; omega
    go_enter Try.func71, Try.ntmps71
    go_wp2_with fail
    go_quiet (fail)
    go_wp2_with fail
    go_loopw [32] (fun x wr => ∃ j : Nat, j ≤ ys.length ∧ x = .int .i64 j ∧ Own wr base (.slice (some ⟨g, 0, none⟩) ys.length c) (mapTo (toLow lo hi) j ys) ∧ w.grownBy wr (some g)) (fun x _ => ys.length - (intOf x).toNat)
    case atStart => exact ⟨0, Nat.zero_le _, rfl, by rw [mapTo_zero]; exact HO.out, grown_draws _ _ _⟩
    case round =>
      obtain ⟨j, hj, rfl, hown, hgr⟩ := hrel
      have HW := Lib.hid hown
      have HG := Lib.hid hgr
      clear hown hgr ci ck
      by_cases hlt : j < ys.length
      · have hln := mapTo_length (toLow lo hi) j ys
        have cj := Own.cell (g := g) (c := c) (j := j) (by have := HW.out; rw [hln]; exact this) (by rw [hln]; exact hlt)
        have fj := World.ownsRow.frozenAt (g := g) (cap := c) (n := ys.length) (by have := HW.out; unfold Own at this; rw [hln] at this; exact this) j
        rw [mapTo_at] at cj
        have HS := Lib.hid (mapTo_set (toLow lo hi) hlt)
        have HKp := Lib.hid (mapTo_keep (toLow lo hi) hlt)
        have HLN := Lib.hid hln
        clear hln
        generalize at_ ys j = x at cj HS HKp
        by_cases hx : x = hi
        · subst hx
          have t3 : ((x : Int) == (x : Int)) = true := by simp
          have hs := HS.out
          rw [show toLow lo x x = lo by unfold toLow; rw [if_pos rfl]] at hs
          have hset := Own.set (g := g) (c := c) (m := lo) HLN.out.symm HW.out j
          rw [hs] at hset
          have HW2 := Lib.hid hset
          clear hs hset
          go_wp2_with fail
          go_roundw
          case rel => exact ⟨j + 1, by omega, by go_num, HW2.out.1, grown_trans HG.out HW2.out.2⟩
          case measure => simp [intOf]; omega
        · have t3 : ((x : Int) == (hi : Int)) = false := by simp; omega
          have HK2 := Lib.hid (HKp.out (by unfold toLow; rw [if_neg hx]))
          clear hx
          go_wp2_with fail
          go_roundw
          case rel => exact ⟨j + 1, by omega, by go_num, by rw [HK2.out]; exact HW.out, HG.out⟩
          case measure => simp [intOf]; omega
      · have H2 := Lib.hid (mapTo_all (toLow lo hi) ys (j := j) (by omega))
        go_wp2
        go_end0
        exact ⟨rfl, by have := HW.out; rw [H2.out] at this; rw [H.out]; exact this, HG.out⟩



theorem Own.lt' {w : World} {base : Nat} {v : Value} {ys : List Nat} (h : Own w base v ys) : ∀ k, v.ownBlock = some k → base ≤ k := fun k hk => (h.lt k hk).1

theorem wpList_append_int {w : World} {ops : Array Oper} {rest : List Oper} {o : Oper} {a : Act} {Q : Exit → Act → World → Prop} (hgd : o.guard = none) (s x : Operand)
    (ho : o.op = .call { callee := .builtin .append, args := #[s, x], argTypes := #[22, 22] })
    (base : Nat) (v : Value) (ys : List Nat) (hs : a.eval s = v) (hown : Own w base v ys) (ad : Addr) (c m : Nat) (hx : a.eval x = .slice (some ad) 1 c)
    (hc : w.cell? ad = some (.int .i64 (m : Int))) (hl : ys.length ≤ 1000000) (hbase : base ≤ w.heap.size)
    (hK : ∀ v' w', Own w' base v' (ys ++ [m]) → w.grownBy w' v.ownBlock → Below base w w' → wpList Try.prog ops Q rest (a.put o.dst v') w') : wpList Try.prog ops Q (o :: rest) a w := by
  obtain ⟨i0, hi, hz0, hz1, hz2⟩ := info_parts infoInt
  refine wpList_append_own w hgd s x 22 ho base 3 i0 (.int .i64 0) 1 8 Try.underlying22 hi hz0 hz1 hz2 rfl (by decide) v ys.length (cellsN ys) hs hown ad 1 c [.int .i64 (m : Int)] hx rfl ?_ ?_ (by unfold maxLen; omega) (by omega) hbase ?_
  · intro j u hj
    cases j with
    | zero => simp at hj; subst hj; obtain ⟨b, off, sp⟩ := ad; have : (⟨b, off, sp⟩ : Addr).add 0 = ⟨b, off, sp⟩ := by simp [Addr.add]
              rw [this]; exact hc
    | succ j => simp at hj
  · intro u hu; simp at hu; subst hu; rfl
  · intro v' w' h1 h2 _
    refine hK v' w' ?_ h2 ((Below.refl base w).grown h2 hbase hown.lt')
    unfold Own
    rw [cellsN_snoc, List.length_append]
    exact h1

theorem wpList_make_ints {w : World} {ops : Array Oper} {rest : List Oper} {o : Oper} {a : Act} {Q : Exit → Act → World → Prop} (hgd : o.guard = none) (l c : Operand)
    (ho : o.op = Op.makeSlice 22 l c) (base n : Nat) (hl : a.eval l = .int .i64 (n : Int)) (hc : a.eval c = .int .i64 (n : Int)) (hn : n ≤ 1000000) (hbase : base ≤ w.heap.size)
    (hK : ∀ w', Own w' base (.slice (some ⟨w.heap.size, 0, none⟩) n n) (List.replicate n 0) → Below w.heap.size w w' → w.heap.size < w'.heap.size → wpList Try.prog ops Q rest (a.put o.dst (.slice (some ⟨w.heap.size, 0, none⟩) n n)) w') : wpList Try.prog ops Q (o :: rest) a w := by
  obtain ⟨i0, hi, hz0, hz1, hz2⟩ := info_parts infoInt
  refine wpList_make_full w hgd l c 22 ho base 3 i0 (.int .i64 0) 1 Try.underlying22 hi hz0 hz1 .i64 .i64 _ _ n hl hc rfl rfl (by rw [hz2]; omega) (by unfold maxLen; omega) hbase ?_
  intro w' h1 h2
  have h3 : Own w' base (.slice (some ⟨w.heap.size, 0, none⟩) n n) (List.replicate n 0) := by
    unfold Own
    rw [cellsN_replicate, List.length_replicate]
    have e : (madeCells (Value.int .i64 0).cells (n * 1)).toList = List.replicate n (Value.int .i64 0) := by rw [Nat.mul_one]; exact toList_madeCells_one _ _
    rw [e] at h1
    exact h1
  exact hK w' h3 ((Below.refl _ w).grown h2 (Nat.le_refl _) (by intro k hk; cases hk)) (h3.lt _ rfl).2



/-- the first k places are numbered, the rest are 0 -/
def upTo (k n : Nat) : List Nat := List.range k ++ List.replicate (n - k) 0
theorem upTo_length {k n : Nat} (h : k ≤ n) : (upTo k n).length = n := by simp [upTo]; omega
theorem upTo_set {k n : Nat} (h : k < n) : (upTo k n).set k k = upTo (k + 1) n := by
  unfold upTo
  rw [List.set_append_right _ _ (by simp), List.length_range, Nat.sub_self, List.range_succ]
  obtain ⟨m, hm⟩ : ∃ m, n - k = m + 1 := ⟨n - k - 1, by omega⟩
  rw [hm, show n - (k + 1) = m by omega, List.replicate_succ, List.set_cons_zero]
  simp
theorem upTo_zero (n : Nat) : upTo 0 n = List.replicate n 0 := by simp [upTo]
theorem upTo_all (n : Nat) : upTo n n = List.range n := by simp [upTo]

set_option maxHeartbeats 1000000 in
theorem finest_any (n : Nat) (w : World) (hn : n ≤ 1000) :
    Calls Try.prog 70 #[.int .i64 n] w fun e w' => ∃ g, e = .returned (.slice (some ⟨g, 0, none⟩) n n) ∧ Own w' w.heap.size (.slice (some ⟨g, 0, none⟩) n n) (List.range n) ∧ Below w.heap.size w w' := by
  go_enter Try.func70, Try.ntmps70
  go_wp2_with (at_make; refine wpList_make_ints rfl _ _ rfl w.heap.size n rfl rfl (by omega) (Nat.le_refl _) ?_; intro w1 hown hb hsz)
  have HO := Lib.hid hown
  have HB := Lib.hid hb
  clear hown hb
  go_wp2_with fail
  go_loopw [9] (fun x wr => ∃ j : Nat, j ≤ n ∧ x = .int .i64 j ∧ Own wr w.heap.size (.slice (some ⟨w.heap.size, 0, none⟩) n n) (upTo j n) ∧ Below w.heap.size w wr) (fun x _ => n - (intOf x).toNat)
  case atStart => exact ⟨0, Nat.zero_le _, rfl, by rw [upTo_zero]; exact HO.out, HB.out⟩
  case round =>
    obtain ⟨j, hj, rfl, hown, hbel⟩ := hrel
    have HW := Lib.hid hown
    have HG := Lib.hid hbel
    clear hown hbel
    by_cases hlt : j < n
    · have hln := upTo_length (k := j) hj
      have cj := Own.cell (g := w.heap.size) (c := n) (j := j) (by have := HW.out; rw [hln]; exact this) (by rw [hln]; exact hlt)
      have fj := World.ownsRow.frozenAt (g := w.heap.size) (cap := n) (n := n) (by have := HW.out; unfold Own at this; rw [hln] at this; exact this) j
      have hset := Own.set (g := w.heap.size) (c := n) (m := j) hln.symm HW.out j
      rw [upTo_set hlt] at hset
      have HW2 := Lib.hid hset
      clear hln hset
      go_wp2_with fail
      go_roundw
      case rel => exact ⟨j + 1, by omega, by go_num, HW2.out.1, HG.out.setCell (p := ⟨w.heap.size, j, none⟩) (Nat.le_refl _) _⟩
      case measure => simp [intOf]; omega
    · have e : j = n := by omega
      subst e
      go_wp2
      go_ret
      exact ⟨_, rfl, by have := HW.out; rw [upTo_all] at this; exact this, HG.out⟩



theorem Own.cast {w : World} {base : Nat} {v : Value} {ys zs : List Nat} (e : ys = zs) (h : Own w base v ys) : Own w base v zs := e ▸ h


theorem merge_n (ys : List Nat) (g c base i k n : Nat) (w : World) (hn : n = ys.length) (hi : i < n) (hk : k < n) (hl : n ≤ 1000000) (hown : Own w base (.slice (some ⟨g, 0, none⟩) n c) ys) :
    Calls Try.prog 71 #[.slice (some ⟨g, 0, none⟩) n c, .int .i64 i, .int .i64 k] w fun e w' =>
      e = .returned (.tuple #[]) ∧ Own w' base (.slice (some ⟨g, 0, none⟩) n c) (mergeS ys i k) ∧ w.grownBy w' (some g) := by
  subst hn
  exact merge_any ys g c base i k w hi hk hl hown

/-- an error of Join, Meet: what is returned -/
def Err2 (n : Nat) (e : Ending) : Prop := e = .returned (.tuple #[.slice none 0 0, .int .i64 n])
/-- a list, made by the call, and no error -/
def Res2 (w w' : World) (R : List Nat) (e : Ending) : Prop := ∃ v, e = .returned (.tuple #[v, .int .i64 0]) ∧ Own w' w.heap.size v R ∧ Below w.heap.size w w'

theorem Own.slice_pos {w : World} {base : Nat} {v : Value} {ys : List Nat} (h : Own w base v ys) (hp : 0 < ys.length) : ∃ g c, v = .slice (some ⟨g, 0, none⟩) ys.length c ∧ base ≤ g := by
  rcases h.2 with ⟨_, hn⟩ | ⟨g, cap, cur, hv, hb, _⟩
  · omega
  · exact ⟨g, cap, hv, hb⟩




theorem Own.mono {w : World} {base base' : Nat} {v : Value} {ys : List Nat} (h : Own w base v ys) (hb : base' ≤ base) : Own w base' v ys :=
  ⟨h.1, h.2.imp id fun ⟨g, cap, cur, hv, hg, r⟩ => ⟨g, cap, cur, hv, Nat.le_trans hb hg, r⟩⟩

theorem cell_new (w : World) (u : Value) (t : TypeId) : (w.alloc (.cells #[u] t)).cell? ⟨w.heap.size, 0, none⟩ = some u := by simp



def Err3 (n : Nat) (e : Ending) : Prop := e = .returned (.tuple #[.slice none 0 0, .int .i64 0, .int .i64 n])
def Res3 (w w' : World) (R : List Nat) (n : Nat) (e : Ending) : Prop := ∃ v, e = .returned (.tuple #[v, .int .i64 n, .int .i64 0]) ∧ Own w' w.heap.size v R ∧ Below w.heap.size w w'

theorem check_ok {us : List Nat} (h : V us) (h80 : us.length ≤ 80) : checkS (toI us) = 0 := checkS_ok (by rw [toI_length]; exact h80) (valid_toI h)

theorem quo_err (xs : List Int) (A : Option Addr) (c B : Nat) (w : World) (hx : xs.length ≤ maxLen) (hA : Ints w B A xs) (hE : checkS xs ≠ 0) :
    Calls Try.prog 60 #[.slice A xs.length c] w fun e w' => Err3 (checkS xs) e ∧ w = w' := by
  have HC := Lib.hid (check_any xs A c B w hx hA)
  have t : ((checkS xs : Int) != 0) = true := by simp; omega
  clear hA hx hE
  generalize checkS xs = n at t HC ⊢
  go_enter Try.func60, Try.ntmps60
  go_wp2_with fail
  refine HC.out.mono ?_
  rintro e w' ⟨rfl, rfl⟩
  go_wp2_with fail
  go_ret3
  exact ⟨rfl, rfl⟩

set_option maxHeartbeats 2000000 in
theorem quo_ok (us : List Nat) (A : Option Addr) (c : Nat) (w : World) (hv : V us) (h80 : us.length ≤ 80) (hA : Ints w w.heap.size A (toI us)) :
    Calls Try.prog 60 #[.slice A us.length c] w fun e w' => Res3 w w' (quoS us) (rank us us.length) e := by
  have HC : Hid (Calls Try.prog 72 #[.slice A us.length c] w fun e w' => e = .returned (.int .i64 0) ∧ w = w') := by
    have := check_any (toI us) A c _ w (by rw [toI_length]; unfold maxLen; omega) hA
    rw [check_ok hv h80, toI_length] at this
    exact this
  have HA := Lib.hid hA
  have HV := Lib.hid hv
  clear hA hv
  go_enter Try.func60, Try.ntmps60
  go_wp2_with fail
  refine HC.out.mono ?_
  rintro e w' ⟨rfl, rfl⟩
  go_wp2_with (at_make; refine wpList_make_ints rfl _ _ rfl w.heap.size us.length rfl rfl (by omega) (Nat.le_refl _) ?_; intro w1 hown hb hsz)
  have HO := Lib.hid hown
  have HB := Lib.hid hb
  clear hown hb
  go_wp2_with fail
  go_loopw [7, 20] (fun m x wr => ∃ k : Nat, k ≤ us.length ∧ x = .int .i64 k ∧ m = .int .i64 (rank us k : Nat) ∧ Own wr w.heap.size (.slice (some ⟨w.heap.size, 0, none⟩) us.length us.length) (quoTo us k) ∧ Below w.heap.size w wr) (fun _ x _ => us.length - (intOf x).toNat)
  case atStart => exact ⟨0, Nat.zero_le _, rfl, rfl, by rw [quoTo_zero]; exact HO.out, HB.out⟩
  case round =>
    obtain ⟨k, hk, rfl, rfl, hown, hbel⟩ := hrel
    by_cases hlt : k < us.length
    · obtain ⟨b, off, rfl, hb, hc⟩ := (HA.out.below hbel).atN hlt
      have hln := quoTo_length (p := us) hk
      have ck := hc k hlt
      have fk := World.ownsRow.frozenAt (g := w.heap.size) (cap := us.length) (n := us.length) (by have := hown; unfold Own at this; rw [hln] at this; exact this) k
      have hcell : ∀ j, j < us.length → wr.cell? ⟨w.heap.size, j, none⟩ = some (.int .i64 (at_ (quoTo us k) j : Nat)) := fun j hj => Own.cell (c := us.length) (by rw [hln]; exact hown) (by rw [hln]; exact hj)
      have gk := hcell k hlt
      have HLN := Lib.hid hln
      have HW := Lib.hid hown
      have HG := Lib.hid hbel
      have hrk := rank_le us k
      have hle := HV.out.le hlt
      have HS := Lib.hid (quoTo_set (p := us) hlt)
      by_cases he : at_ us k = k
      · have HR := Lib.hid (rank_yes he)
        rw [he] at ck HS
        clear he hown hbel hc hln hcell
        generalize rank us k = m at hrk HR HS ⊢
        have t1 : ((k : Int) == (k : Int)) = true := by simp
        go_wp2_with fail
        go_roundw
        case rel => exact ⟨k + 1, by omega, by go_num, by rw [HR.out]; go_num, by
          have := (Own.set (g := w.heap.size) (c := us.length) (m := m) HLN.out.symm HW.out k).1
          rw [HS.out] at this
          exact this, HG.out.setCell (p := ⟨w.heap.size, k, none⟩) (Nat.le_refl _) _⟩
        case measure => simp [intOf]; omega
      · have HR := Lib.hid (rank_no he)
        have gl := hcell (at_ us k) (by omega)
        have hq := quoTo_at (p := us) (i := at_ us k) (k := k) (by omega) hk
        rw [HV.out.idem hlt] at hq
        rw [hq] at gl
        have t1 : ((at_ us k : Int) == (k : Int)) = false := by simp; omega
        have hlk : at_ us k < k := by omega
        clear he hown hbel hc hln hcell hq
        generalize rank us (at_ us k) = m at HS gl
        generalize at_ us k = y at ck gl t1 hle hlk
        go_wp2_with fail
        go_roundw
        case rel => exact ⟨k + 1, by omega, by go_num, by rw [HR.out], by
          have := (Own.set (g := w.heap.size) (c := us.length) (m := m) HLN.out.symm HW.out k).1
          rw [HS.out] at this
          exact this, HG.out.setCell (p := ⟨w.heap.size, k, none⟩) (Nat.le_refl _) _⟩
        case measure => simp [intOf]; omega
    · have e : k = us.length := by omega
      subst e
      have HT := Lib.hid (quoTo_all us)
      have HW := Lib.hid hown
      clear hown
      go_wp2
      go_ret3
      exact ⟨_, rfl, Own.cast HT.out HW.out, hbel⟩



/-- the slice at A reads as these pairs, in a block below B -/
def Pairs (w : World) (B : Nat) (A : Option Addr) (ps : List (Nat × Nat)) : Prop :=
  ps = [] ∨ ∃ b off, A = some ⟨b, off, none⟩ ∧ b < B ∧ ∀ i, i < ps.length → w.cell? ⟨b, off + i * 2, none⟩ = some (.int .i64 ((ps.getD i (0, 0)).1 : Nat)) ∧ w.cell? ⟨b, off + i * 2 + 1, none⟩ = some (.int .i64 ((ps.getD i (0, 0)).2 : Nat))
theorem Pairs.at {w : World} {B : Nat} {A : Option Addr} {ps : List (Nat × Nat)} (h : Pairs w B A ps) {k : Nat} (hk : k < ps.length) :
    ∃ b off, A = some ⟨b, off, none⟩ ∧ b < B ∧ w.cell? ⟨b, off + k * 2, none⟩ = some (.int .i64 ((ps.getD k (0, 0)).1 : Nat)) ∧ w.cell? ⟨b, off + k * 2 + 1, none⟩ = some (.int .i64 ((ps.getD k (0, 0)).2 : Nat)) := by
  rcases h with h | ⟨b, off, h1, h2, h3⟩
  · subst h; simp at hk
  · exact ⟨b, off, h1, h2, (h3 k hk).1, (h3 k hk).2⟩
theorem Pairs.below {w w' : World} {B : Nat} {A : Option Addr} {ps : List (Nat × Nat)} (h : Pairs w B A ps) (hb : Below B w w') : Pairs w' B A ps := by
  rcases h with h | ⟨b, off, h1, h2, h3⟩
  · exact .inl h
  · exact .inr ⟨b, off, h1, h2, fun i hi => ⟨(hb.cell (p := ⟨b, off + i * 2, none⟩) h2).trans (h3 i hi).1, (hb.cell (p := ⟨b, off + i * 2 + 1, none⟩) h2).trans (h3 i hi).2⟩⟩
theorem Pairs.mono {w : World} {B B' : Nat} {A : Option Addr} {ps : List (Nat × Nat)} (h : Pairs w B A ps) (hb : B ≤ B') : Pairs w B' A ps := by
  rcases h with h | ⟨b, off, h1, h2, h3⟩
  · exact .inl h
  · exact .inr ⟨b, off, h1, by omega, h3⟩

theorem inR_at {n : Nat} {ps : List (Nat × Nat)} (h : inR n ps) {k : Nat} (hk : k < ps.length) : (ps.getD k (0, 0)).1 < n ∧ (ps.getD k (0, 0)).2 < n :=
  h _ (by rw [List.getD, List.getElem?_eq_getElem hk]; exact List.getElem_mem hk)
theorem gen_take (n : Nat) (ps : List (Nat × Nat)) {k : Nat} (hk : k < ps.length) : genS n (ps.take (k + 1)) = mergeS (genS n (ps.take k)) (ps.getD k (0, 0)).1 (ps.getD k (0, 0)).2 := by
  unfold genS
  rw [List.take_succ_eq_append_getElem hk, merges_append]
  have e : ps[k] = ps.getD k (0, 0) := by simp [List.getD, hk]
  rw [e]
  rfl

set_option maxHeartbeats 2000000 in
theorem gen_ok (n : Nat) (ps : List (Nat × Nat)) (A : Option Addr) (c : Nat) (w : World) (h80 : n ≤ 80) (hl : ps.length ≤ 1000000) (hr : inR n ps) (hA : Pairs w w.heap.size A ps) :
    Calls Try.prog 59 #[.int .i64 n, .slice A ps.length c] w fun e w' => Res2 w w' (genS n ps) e := by
  have HC : Hid (Calls Try.prog 68 #[.int .i64 n, .int .i64 80] w fun e w' => e = .returned (.int .i64 0) ∧ w = w') := by
    have := checkSize_any n 80 w
    rw [show sizeS (n : Int) 80 = 0 by unfold sizeS; rw [if_neg (by omega), if_neg (by omega)]] at this
    exact this
  have HA := Lib.hid hA
  have HR := Lib.hid hr
  clear hA hr
  go_enter Try.func59, Try.ntmps59
  go_wp2_with fail
  refine HC.out.mono ?_
  rintro e w' ⟨rfl, rfl⟩
  go_wp2_with fail
  go_loopw [8, 19] (fun _ x wr => ∃ k : Nat, k ≤ ps.length ∧ x = .int .i64 k ∧ Below w.heap.size w wr) (fun _ x _ => ps.length - (intOf x).toNat)
  case atStart => exact ⟨0, Nat.zero_le _, rfl, Below.refl _ _⟩
  case round =>
    obtain ⟨k, hk, rfl, hbel⟩ := hrel
    have hsz := hbel.size
    by_cases hlt : k < ps.length
    · obtain ⟨b, off, rfl, hb, c1, c2⟩ := (HA.out.below hbel).at hlt
      obtain ⟨r1, r2⟩ := inR_at HR.out hlt
      have HG := Lib.hid hbel
      clear hbel
      generalize (ps.getD k (0, 0)).1 = x at c1 r1
      generalize (ps.getD k (0, 0)).2 = y at c2 r2
      go_wp2_with fail
      refine (isBelow_yes _ _ (by omega) (by omega) _).mono ?_
      rintro e w' ⟨rfl, rfl⟩
      go_wp2_with fail
      refine (isBelow_yes _ _ (by omega) (by omega) _).mono ?_
      rintro e w' ⟨rfl, rfl⟩
      go_wp2_with fail
      go_roundw
      case rel => exact ⟨k + 1, by omega, by go_num, HG.out.alloc hsz _⟩
      case measure => simp [intOf]; omega
    · go_wp2_with fail
      refine (finest_any n _ (by omega)).mono ?_
      rintro e w1 ⟨g, rfl, hown, hb1⟩
      have hg : w.heap.size ≤ g := Nat.le_trans hsz (hown.lt g rfl).1
      have HO := Lib.hid (hown.mono hsz)
      have HB1 := Lib.hid (hbel.trans (hb1.mono hsz))
      clear hown hb1 hbel
      go_wp2_with fail
      go_loopw [11, 40] (fun _ x wr => ∃ k : Nat, k ≤ ps.length ∧ x = .int .i64 k ∧ Own wr w.heap.size (.slice (some ⟨g, 0, none⟩) n n) (genS n (ps.take k)) ∧ Below w.heap.size w wr) (fun _ x _ => ps.length - (intOf x).toNat)
      case atStart => exact ⟨0, Nat.zero_le _, rfl, HO.out, HB1.out⟩
      case round =>
        obtain ⟨k, hk, rfl, hown, hbel⟩ := hrel
        have hsz2 := hbel.size
        have HW := Lib.hid hown
        by_cases hlt : k < ps.length
        · obtain ⟨b, off, rfl, hb, c1, c2⟩ := (HA.out.below hbel).at hlt
          obtain ⟨r1, r2⟩ := inR_at HR.out hlt
          have HG := Lib.hid hbel
          have HS := Lib.hid (gen_take n ps hlt)
          have hln := genS_length n (ps.take k)
          have HM := Lib.hid (fun w1 h => merge_n (genS n (ps.take k)) g n w.heap.size (ps.getD k (0, 0)).1 (ps.getD k (0, 0)).2 n w1 hln.symm r1 r2 (by omega) h)
          clear hbel hown hln
          generalize (ps.getD k (0, 0)).1 = x at c1 r1 HM HS
          generalize (ps.getD k (0, 0)).2 = y at c2 r2 HM HS
          go_wp2_with fail
          refine (HM.out _ (World.ownsRow.alloc HW.out _)).mono ?_
          rintro e w2 ⟨rfl, hown2, hgr2⟩
          have HW2 := Lib.hid hown2
          have HB2 := Lib.hid ((HG.out.alloc hsz2 _).trans (grown_below hgr2 hg (by simp; omega)))
          clear hown2 hgr2
          go_wp2_with fail
          go_roundw
          case rel => exact ⟨k + 1, by omega, by go_num, by rw [HS.out]; exact HW2.out, HB2.out⟩
          case measure => simp [intOf]; omega
        · have HT := Lib.hid (show genS n (ps.take k) = genS n ps by rw [List.take_of_length_le (by omega)])
          clear hown
          go_wp2
          go_ret2
          exact ⟨_, rfl, Own.cast HT.out HW.out, hbel⟩


end Go.Proofs.Ytiafmhdicgmfaaa.Pt
