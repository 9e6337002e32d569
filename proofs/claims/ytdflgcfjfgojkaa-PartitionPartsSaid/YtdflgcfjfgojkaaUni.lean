/-
  The contracts in one form for every list of ints, right or not.
-/
import Derived.Test.YtdflgcfjfgojkaaAwake
namespace Go.Proofs.Ytdflgcfjfgojkaa
open Go.RowKit

def natsOf (xs : List Int) : List Nat := xs.map Int.toNat
theorem natsOf_toI (us : List Nat) : natsOf (toI us) = us := by
  unfold natsOf toI
  rw [List.map_map]
  exact List.map_id' us

def clsR (xs : List Int) : List (List Nat) := if checkS xs = 0 then classS (natsOf xs) else []
def quoR (xs : List Int) : List Nat := if checkS xs = 0 then quoS (natsOf xs) else []
def rankR (xs : List Int) : Nat := if checkS xs = 0 then rank (natsOf xs) (natsOf xs).length else 0
def joinR (xs ys : List Int) : List Nat := if bothS xs ys = 0 then joinS (natsOf xs) (natsOf ys) else []
def meetR (xs ys : List Int) : List Nat := if bothS xs ys = 0 then meetS (natsOf xs) (natsOf ys) else []
def finerR (xs ys : List Int) : Bool := if bothS xs ys = 0 then decide (F (natsOf xs) (natsOf ys)) else false

def LRes (w w' : World) (R : List (List Nat)) (n : Nat) (e : Ending) : Prop := ∃ v, e = .returned (.tuple #[v, .int .i64 n]) ∧ OwnL w' w.heap.size v R ∧ Below w.heap.size w w'
def IRes (w w' : World) (R : List Nat) (n : Nat) (e : Ending) : Prop := ∃ v, e = .returned (.tuple #[v, .int .i64 n]) ∧ Own w' w.heap.size v R ∧ Below w.heap.size w w'
def QRes (w w' : World) (R : List Nat) (m n : Nat) (e : Ending) : Prop := ∃ v, e = .returned (.tuple #[v, .int .i64 m, .int .i64 n]) ∧ Own w' w.heap.size v R ∧ Below w.heap.size w w'

theorem check_zero {xs : List Int} (h : checkS xs = 0) : ∃ us : List Nat, xs = toI us ∧ V us ∧ us.length ≤ 80 := by
  rcases checkS_cases xs with ⟨h1, _⟩ | h1 | ⟨_, h2, h3⟩
  · omega
  · omega
  · obtain ⟨us, rfl, hv⟩ := valid_nat h3
    rw [toI_length] at h2
    exact ⟨us, rfl, hv, h2⟩
theorem both_zero {xs ys : List Int} (h : bothS xs ys = 0) : ∃ us vs : List Nat, xs = toI us ∧ ys = toI vs ∧ V us ∧ V vs ∧ us.length = vs.length ∧ us.length ≤ 80 := by
  rcases bothS_cases xs ys with ⟨h1, _⟩ | ⟨h1, _⟩ | ⟨h1, _⟩ | ⟨_, h2, h3, h4, h5, h6⟩
  · omega
  · omega
  · omega
  · obtain ⟨us, rfl, hv⟩ := valid_nat h4
    obtain ⟨vs, rfl, hv'⟩ := valid_nat h5
    rw [toI_length, toI_length] at h6
    rw [toI_length] at h2
    exact ⟨us, vs, rfl, rfl, hv, hv', h6, h2⟩

theorem clsP (xs : List Int) (A : Option Addr) (c : Nat) (w : World) (hl : xs.length ≤ maxLen) (hA : Ints w w.heap.size A xs) :
    Calls Try.prog 11 #[.slice A xs.length c] w fun e w' => LRes w w' (clsR xs) (checkS xs) e := by
  by_cases h : checkS xs = 0
  · obtain ⟨us, rfl, hv, h80⟩ := check_zero h
    have := cls_ok us A c w hv h80 hA
    unfold clsR
    rw [if_pos h, natsOf_toI, h, toI_length]
    exact this
  · have := cls_err xs A c _ w hl hA h
    unfold clsR
    rw [if_neg h]
    refine this.mono ?_
    rintro e w' ⟨rfl, rfl⟩
    exact ⟨_, rfl, OwnL.nil _ _, Below.refl _ _⟩
theorem clsRf (xs : List Int) (A : Option Addr) (c : Nat) (w : World) (hl : xs.length ≤ maxLen) (hA : Ints w w.heap.size A xs) :
    Calls Try.prog 13 #[.slice A xs.length c] w fun e w' => LRes w w' (clsR xs) (checkS xs) e := by
  by_cases h : checkS xs = 0
  · obtain ⟨us, rfl, hv, h80⟩ := check_zero h
    have := refCls_ok us A c w hv h80 hA
    unfold clsR
    rw [if_pos h, natsOf_toI, h, toI_length]
    exact this
  · have := refCls_err xs A c w hl hA h
    unfold clsR
    rw [if_neg h]
    refine this.mono ?_
    rintro e w' ⟨rfl, hb⟩
    exact ⟨_, rfl, OwnL.nil _ _, hb⟩
theorem quoP (xs : List Int) (A : Option Addr) (c : Nat) (w : World) (hl : xs.length ≤ maxLen) (hA : Ints w w.heap.size A xs) :
    Calls Try.prog 14 #[.slice A xs.length c] w fun e w' => QRes w w' (quoR xs) (rankR xs) (checkS xs) e := by
  by_cases h : checkS xs = 0
  · obtain ⟨us, rfl, hv, h80⟩ := check_zero h
    have := quo_ok us A c w hv h80 hA
    unfold quoR rankR
    rw [if_pos h, if_pos h, natsOf_toI, h, toI_length]
    exact this
  · have := quo_err xs A c _ w hl hA h
    unfold quoR rankR
    rw [if_neg h, if_neg h]
    refine this.mono ?_
    rintro e w' ⟨rfl, rfl⟩
    exact ⟨_, rfl, World.ownsRow_nil _ _ _ _, Below.refl _ _⟩
theorem quoRf (xs : List Int) (A : Option Addr) (c : Nat) (w : World) (hl : xs.length ≤ maxLen) (hA : Ints w w.heap.size A xs) :
    Calls Try.prog 15 #[.slice A xs.length c] w fun e w' => QRes w w' (quoR xs) (rankR xs) (checkS xs) e := by
  by_cases h : checkS xs = 0
  · obtain ⟨us, rfl, hv, h80⟩ := check_zero h
    have := refQuo_ok us A c w hv h80 hA
    unfold quoR rankR
    rw [if_pos h, if_pos h, natsOf_toI, h, toI_length]
    exact this
  · have := refQuo_err xs A c w hl hA h
    unfold quoR rankR
    rw [if_neg h, if_neg h]
    refine this.mono ?_
    rintro e w' ⟨rfl, hb⟩
    exact ⟨_, rfl, World.ownsRow_nil _ _ _ _, hb⟩
theorem joinP (xs ys : List Int) (A A' : Option Addr) (c c' : Nat) (w : World) (hx : xs.length ≤ maxLen) (hy : ys.length ≤ maxLen) (hA : Ints w w.heap.size A xs) (hB : Ints w w.heap.size A' ys) :
    Calls Try.prog 20 #[.slice A xs.length c, .slice A' ys.length c'] w fun e w' => IRes w w' (joinR xs ys) (bothS xs ys) e := by
  by_cases h : bothS xs ys = 0
  · obtain ⟨us, vs, rfl, rfl, hv, hv', hl, h80⟩ := both_zero h
    have := join_ok us vs A A' c c' w hv hv' hl h80 hA hB
    unfold joinR
    rw [if_pos h, natsOf_toI, natsOf_toI, h, toI_length, toI_length]
    exact this
  · have := join_err xs ys A A' c c' _ _ w hx hy hA hB h
    unfold joinR
    rw [if_neg h]
    refine this.mono ?_
    rintro e w' ⟨rfl, rfl⟩
    exact ⟨_, rfl, World.ownsRow_nil _ _ _ _, Below.refl _ _⟩
theorem joinRf (xs ys : List Int) (A A' : Option Addr) (c c' : Nat) (w : World) (hx : xs.length ≤ maxLen) (hy : ys.length ≤ maxLen) (hA : Ints w w.heap.size A xs) (hB : Ints w w.heap.size A' ys) :
    Calls Try.prog 21 #[.slice A xs.length c, .slice A' ys.length c'] w fun e w' => IRes w w' (joinR xs ys) (bothS xs ys) e := by
  by_cases h : bothS xs ys = 0
  · obtain ⟨us, vs, rfl, rfl, hv, hv', hl, h80⟩ := both_zero h
    have := refJoin_ok us vs A A' c c' w hv hv' hl h80 hA hB
    unfold joinR
    rw [if_pos h, natsOf_toI, natsOf_toI, h, toI_length, toI_length]
    exact this
  · have := refJoin_err xs ys A A' c c' w hx hy hA hB h
    unfold joinR
    rw [if_neg h]
    refine this.mono ?_
    rintro e w' ⟨rfl, hb⟩
    exact ⟨_, rfl, World.ownsRow_nil _ _ _ _, hb⟩
theorem meetP (xs ys : List Int) (A A' : Option Addr) (c c' : Nat) (w : World) (hx : xs.length ≤ maxLen) (hy : ys.length ≤ maxLen) (hA : Ints w w.heap.size A xs) (hB : Ints w w.heap.size A' ys) :
    Calls Try.prog 22 #[.slice A xs.length c, .slice A' ys.length c'] w fun e w' => IRes w w' (meetR xs ys) (bothS xs ys) e := by
  by_cases h : bothS xs ys = 0
  · obtain ⟨us, vs, rfl, rfl, hv, hv', hl, h80⟩ := both_zero h
    have := meet_ok us vs A A' c c' w hv hv' hl h80 hA hB
    unfold meetR
    rw [if_pos h, natsOf_toI, natsOf_toI, h, toI_length, toI_length]
    exact this
  · have := meet_err xs ys A A' c c' _ _ w hx hy hA hB h
    unfold meetR
    rw [if_neg h]
    refine this.mono ?_
    rintro e w' ⟨rfl, rfl⟩
    exact ⟨_, rfl, World.ownsRow_nil _ _ _ _, Below.refl _ _⟩
theorem meetRf (xs ys : List Int) (A A' : Option Addr) (c c' : Nat) (w : World) (hx : xs.length ≤ maxLen) (hy : ys.length ≤ maxLen) (hA : Ints w w.heap.size A xs) (hB : Ints w w.heap.size A' ys) :
    Calls Try.prog 23 #[.slice A xs.length c, .slice A' ys.length c'] w fun e w' => IRes w w' (meetR xs ys) (bothS xs ys) e := by
  by_cases h : bothS xs ys = 0
  · obtain ⟨us, vs, rfl, rfl, hv, hv', hl, h80⟩ := both_zero h
    have := refMeet_ok us vs A A' c c' w hv hv' hl h80 hA hB
    unfold meetR
    rw [if_pos h, natsOf_toI, natsOf_toI, h, toI_length, toI_length]
    exact this
  · have := refMeet_err xs ys A A' c c' w hx hy hA hB h
    unfold meetR
    rw [if_neg h]
    refine this.mono ?_
    rintro e w' ⟨rfl, hb⟩
    exact ⟨_, rfl, World.ownsRow_nil _ _ _ _, hb⟩
theorem finerP (xs ys : List Int) (A A' : Option Addr) (c c' : Nat) (w : World) (hx : xs.length ≤ maxLen) (hy : ys.length ≤ maxLen) (hA : Ints w w.heap.size A xs) (hB : Ints w w.heap.size A' ys) :
    Calls Try.prog 24 #[.slice A xs.length c, .slice A' ys.length c'] w fun e w' => e = .returned (.bool (finerR xs ys)) ∧ Below w.heap.size w w' := by
  by_cases h : bothS xs ys = 0
  · obtain ⟨us, vs, rfl, rfl, hv, hv', hl, h80⟩ := both_zero h
    have := finer_ok us vs A A' c c' w hv hv' hl h80 hA hB
    unfold finerR
    rw [if_pos h, natsOf_toI, natsOf_toI, toI_length, toI_length]
    exact this
  · have := finer_err xs ys A A' c c' _ _ w hx hy hA hB h
    unfold finerR
    rw [if_neg h]
    refine this.mono ?_
    rintro e w' ⟨rfl, rfl⟩
    exact ⟨rfl, Below.refl _ _⟩
theorem finerRf (xs ys : List Int) (A A' : Option Addr) (c c' : Nat) (w : World) (hx : xs.length ≤ maxLen) (hy : ys.length ≤ maxLen) (hA : Ints w w.heap.size A xs) (hB : Ints w w.heap.size A' ys) :
    Calls Try.prog 25 #[.slice A xs.length c, .slice A' ys.length c'] w fun e w' => e = .returned (.bool (finerR xs ys)) ∧ Below w.heap.size w w' := by
  by_cases h : bothS xs ys = 0
  · obtain ⟨us, vs, rfl, rfl, hv, hv', hl, h80⟩ := both_zero h
    have := refFiner_ok us vs A A' c c' w hv hv' hl h80 hA hB
    unfold finerR
    rw [if_pos h, natsOf_toI, natsOf_toI, toI_length, toI_length]
    exact this
  · have := refFiner_err xs ys A A' c c' w hx hy hA hB h
    unfold finerR
    rw [if_neg h]
    exact this

theorem clsR_len (xs : List Int) : (clsR xs).length ≤ 80 ∧ ∀ x ∈ clsR xs, x.length ≤ 1000000 := by
  unfold clsR
  by_cases h : checkS xs = 0
  · obtain ⟨us, rfl, hv, h80⟩ := check_zero h
    rw [if_pos h, natsOf_toI]
    have h1 := clsTo_length us us.length
    have h2 := rank_le us us.length
    refine ⟨by unfold classS; omega, fun x hx => ?_⟩
    unfold classS clsTo at hx
    obtain ⟨f, _, rfl⟩ := List.mem_map.1 hx
    have := clsOf_len us us.length f
    omega
  · rw [if_neg h]; simp
theorem quoR_len (xs : List Int) : (quoR xs).length ≤ 80 := by
  unfold quoR
  by_cases h : checkS xs = 0
  · obtain ⟨us, rfl, hv, h80⟩ := check_zero h
    rw [if_pos h, natsOf_toI, quoS_length]; exact h80
  · rw [if_neg h]; simp
theorem joinR_len (xs ys : List Int) : (joinR xs ys).length ≤ 80 := by
  unfold joinR
  by_cases h : bothS xs ys = 0
  · obtain ⟨us, vs, rfl, rfl, hv, hv', hl, h80⟩ := both_zero h
    rw [if_pos h, natsOf_toI, natsOf_toI, joinS_length]; exact h80
  · rw [if_neg h]; simp
theorem meetR_len (xs ys : List Int) : (meetR xs ys).length ≤ 80 := by
  unfold meetR
  by_cases h : bothS xs ys = 0
  · obtain ⟨us, vs, rfl, rfl, hv, hv', hl, h80⟩ := both_zero h
    rw [if_pos h, natsOf_toI, natsOf_toI, meetS_length]; exact h80
  · rw [if_neg h]; simp

theorem equalOwn (R S : List Nat) (v v' : Value) (base base' : Nat) (w : World) (hR : R.length ≤ 1000000) (hA : Own w base v R) (hB : Own w base' v' S) :
    Calls Try.prog 19 #[v, v'] w fun e w' => e = .returned (.bool (decide (R = S))) ∧ Below w.heap.size w w' := by
  obtain ⟨A, c, rfl, hT⟩ := hA.ints
  obtain ⟨A', c', rfl, hT'⟩ := hB.ints
  exact equal_nat R S A A' c c' w hR hT hT'

theorem sameOwn (R : List Nat) (v v' : Value) (base base' : Nat) (w : World) (hR : R.length ≤ 1000000) (hA : Own w base v R) (hB : Own w base' v' R) :
    Calls Try.prog 19 #[v, v'] w fun e w' => e = .returned (.bool true) ∧ Below w.heap.size w w' := by
  refine (equalOwn R R v v' base base' w hR hA hB).mono ?_
  rintro e w' ⟨rfl, hb⟩
  exact ⟨ret_bool (decide_eq_true rfl), hb⟩
theorem sameOwnL (R : List (List Nat)) (v v' : Value) (base base' : Nat) (w : World) (hR : R.length ≤ 1000000) (hRR : ∀ x ∈ R, x.length ≤ 1000000) (hA : OwnL w base v R) (hB : OwnL w base' v' R) :
    Calls Try.prog 18 #[v, v'] w fun e w' => e = .returned (.bool true) ∧ Below w.heap.size w w' := by
  refine (sameLists_any R R v v' base base' w hR hRR hA hB).mono ?_
  rintro e w' ⟨rfl, hb⟩
  exact ⟨ret_bool (decide_eq_true rfl), hb⟩

/-- a copy of a list: what a call of one of the contracts takes -/
theorem cloneI (xs : List Int) (A : Option Addr) (c : Nat) (w : World) (hl : xs.length ≤ 1000000) (hT : Ints w w.heap.size A xs) :
    Calls Try.prog 12 #[.slice A xs.length c] w fun e w' => ∃ A' c', e = .returned (.slice A' xs.length c') ∧ Ints w' w'.heap.size A' xs ∧ Below w.heap.size w w' := by
  refine (clone_any xs A _ c w hl hT).mono ?_
  rintro e w' ⟨v, rfl, h, hb⟩
  obtain ⟨A', c', rfl, hT'⟩ := h.ints
  exact ⟨A', c', rfl, hT', hb⟩

theorem joinO (us vs : List Nat) (v v' : Value) (base base' : Nat) (w : World) (ha : V us) (hb : V vs) (hl : us.length = vs.length) (h80 : us.length ≤ 80) (hA : Own w base v us) (hB : Own w base' v' vs) :
    Calls Try.prog 20 #[v, v'] w fun e w' => ∃ r, e = .returned (.tuple #[r, .int .i64 0]) ∧ Own w' w.heap.size r (joinS us vs) ∧ Below w.heap.size w w' := by
  obtain ⟨A, c, rfl, hT⟩ := hA.ints
  obtain ⟨A', c', rfl, hT'⟩ := hB.ints
  exact join_ok us vs A A' c c' w ha hb hl h80 hT hT'
theorem meetO (us vs : List Nat) (v v' : Value) (base base' : Nat) (w : World) (ha : V us) (hb : V vs) (hl : us.length = vs.length) (h80 : us.length ≤ 80) (hA : Own w base v us) (hB : Own w base' v' vs) :
    Calls Try.prog 22 #[v, v'] w fun e w' => ∃ r, e = .returned (.tuple #[r, .int .i64 0]) ∧ Own w' w.heap.size r (meetS us vs) ∧ Below w.heap.size w w' := by
  obtain ⟨A, c, rfl, hT⟩ := hA.ints
  obtain ⟨A', c', rfl, hT'⟩ := hB.ints
  exact meet_ok us vs A A' c c' w ha hb hl h80 hT hT'
theorem finerYes (us vs : List Nat) (v v' : Value) (base base' : Nat) (w : World) (ha : V us) (hb : V vs) (hl : us.length = vs.length) (h80 : us.length ≤ 80) (hf : F us vs) (hA : Own w base v us) (hB : Own w base' v' vs) :
    Calls Try.prog 24 #[v, v'] w fun e w' => e = .returned (.bool true) ∧ Below w.heap.size w w' := by
  obtain ⟨A, c, rfl, hT⟩ := hA.ints
  obtain ⟨A', c', rfl, hT'⟩ := hB.ints
  refine (finer_ok us vs A A' c c' w ha hb hl h80 hT hT').mono ?_
  rintro e w' ⟨rfl, hb⟩
  exact ⟨ret_bool (decide_eq_true hf), hb⟩
theorem finerNo (us vs : List Nat) (v v' : Value) (base base' : Nat) (w : World) (ha : V us) (hb : V vs) (hl : us.length = vs.length) (h80 : us.length ≤ 80) (hf : ¬ F us vs) (hA : Own w base v us) (hB : Own w base' v' vs) :
    Calls Try.prog 24 #[v, v'] w fun e w' => e = .returned (.bool false) ∧ Below w.heap.size w w' := by
  obtain ⟨A, c, rfl, hT⟩ := hA.ints
  obtain ⟨A', c', rfl, hT'⟩ := hB.ints
  refine (finer_ok us vs A A' c c' w ha hb hl h80 hT hT').mono ?_
  rintro e w' ⟨rfl, hb⟩
  exact ⟨ret_bool (decide_eq_false hf), hb⟩

end Go.Proofs.Ytdflgcfjfgojkaa
