/-
  Slices of slices of ints that a call made; the law for append of one row; slices.Clip; SameInts, SameLists of the reference.
-/
import Derived.Test.YtdflgcfjfgojkaaRefJoin
namespace Go.Proofs.Ytdflgcfjfgojkaa
open Go.RowKit

theorem infoRow : (Try.prog.info? 22).map (fun i => (i.zero, i.size, i.bytes)) = some (some (.slice none 0 0), 1, 24) := by kernel_rfl

/-- a slice of slices of ints, all of them made by the call -/
def OwnL (w : World) (base : Nat) (v : Value) (xss : List (List Nat)) : Prop :=
  ∃ vs : List Value, w.ownsRow base 22 1 v xss.length vs ∧ ∀ (i : Nat) (xs : List Nat), xss[i]? = some xs → ∃ u : Value, vs[i]? = some u ∧ Own w base u xs

theorem OwnL.slice {w : World} {base : Nat} {v : Value} {xss : List (List Nat)} (h : OwnL w base v xss) : ∃ ao cap, v = .slice ao xss.length cap := by
  obtain ⟨vs, h1, _⟩ := h
  exact slice_of h1

theorem OwnL.nil (w : World) (base : Nat) : OwnL w base (.slice none 0 0) [] := ⟨[], World.ownsRow_nil _ _ _ _, fun i xs h => by simp at h⟩

theorem OwnL.mono {w : World} {base base' : Nat} {v : Value} {xss : List (List Nat)} (h : OwnL w base v xss) (hb : base' ≤ base) : OwnL w base' v xss := by
  obtain ⟨vs, h1, h2⟩ := h
  refine ⟨vs, ⟨h1.1, h1.2.imp id fun ⟨g, cap, cur, hv, hg, r⟩ => ⟨g, cap, cur, hv, Nat.le_trans hb hg, r⟩⟩, fun i xs hx => ?_⟩
  obtain ⟨u, hu, ho⟩ := h2 i xs hx
  exact ⟨u, hu, ho.mono hb⟩

theorem OwnL.cast {w : World} {base : Nat} {v : Value} {xss yss : List (List Nat)} (e : xss = yss) (h : OwnL w base v xss) : OwnL w base v yss := e ▸ h

theorem OwnL.below {w w' : World} {base B : Nat} {v : Value} {xss : List (List Nat)} (h : OwnL w base v xss) (hb : Below B w w') (hB : w.heap.size ≤ B) : OwnL w' base v xss := by
  obtain ⟨vs, h1, h2⟩ := h
  refine ⟨vs, ⟨h1.1, ?_⟩, fun i xs hx => ?_⟩
  · rcases h1.2 with hn | ⟨g, cap, cur, hv, hbg, hg, rest⟩
    · exact .inl hn
    · exact .inr ⟨g, cap, cur, hv, hbg, by rw [hb.block g (Nat.lt_of_lt_of_le (h1.lt g (by rw [hv]; rfl)).2 hB)]; exact hg, rest⟩
  · obtain ⟨u, hu, ho⟩ := h2 i xs hx
    exact ⟨u, hu, ho.below hb hB⟩

/-- the row at a place -/
theorem OwnL.at {w : World} {base : Nat} {v : Value} {xss : List (List Nat)} (h : OwnL w base v xss) {k : Nat} (hk : k < xss.length) :
    ∃ b cap u, v = .slice (some ⟨b, 0, none⟩) xss.length cap ∧ b < w.heap.size ∧ w.cell? ⟨b, k, none⟩ = some u ∧ Own w base u (xss.getD k []) := by
  obtain ⟨vs, h1, h2⟩ := h
  obtain ⟨u, hu, ho⟩ := h2 k (xss.getD k []) (by simp [List.getD, hk])
  rcases h1.2 with ⟨_, hn⟩ | ⟨g, cap, cur, hv, hbg, hg, _⟩
  · omega
  · have h3 := h1
    rw [hv] at h3
    refine ⟨g, cap, u, hv, (h1.lt g (by rw [hv]; rfl)).2, ?_, ho⟩
    rw [World.ownsRow.cellAt h3 k (by omega)]
    exact hu

/-- a row of ints and a row of rows lie in different blocks -/
theorem own_apart {w : World} {base base' : Nat} {u v : Value} {xs : List Nat} {n : Nat} {vs : List Value} (hu : Own w base u xs) (hv : w.ownsRow base' 22 1 v n vs) : u.ownBlock = none ∨ u.ownBlock ≠ v.ownBlock := by
  rcases hu.2 with ⟨e, _⟩ | ⟨g, cap, cur, e, _, hg, _⟩
  · left; rw [e]; rfl
  · right
    rcases hv.2 with ⟨e', _⟩ | ⟨g', cap', cur', e', _, hg', _⟩
    · rw [e, e']; simp [Value.ownBlock]
    · rw [e, e']
      simp only [Value.ownBlock]
      intro he
      injection he with he
      rw [he, hg'] at hg
      simp at hg

theorem wpList_append_row {w : World} {ops : Array Oper} {rest : List Oper} {o : Oper} {a : Act} {Q : Exit → Act → World → Prop} (hgd : o.guard = none) (s x : Operand)
    (ho : o.op = .call { callee := .builtin .append, args := #[s, x], argTypes := #[24, 24] })
    (base : Nat) (v : Value) (xss : List (List Nat)) (hs : a.eval s = v) (hown : OwnL w base v xss) (ad : Addr) (c : Nat) (hx : a.eval x = .slice (some ad) 1 c)
    (u : Value) (xs : List Nat) (hc : w.cell? ad = some u) (hu : Own w base u xs) (hl : xss.length ≤ 1000000) (hbase : base ≤ w.heap.size)
    (hK : ∀ v' w', OwnL w' base v' (xss ++ [xs]) → Below base w w' → wpList Try.prog ops Q rest (a.put o.dst v') w') : wpList Try.prog ops Q (o :: rest) a w := by
  obtain ⟨i0, hi, hz0, hz1, hz2⟩ := info_parts infoRow
  obtain ⟨vs, h1, h2⟩ := hown
  refine wpList_append_own w hgd s x 24 ho base 22 i0 (.slice none 0 0) 1 24 Try.underlying24 hi hz0 hz1 hz2 rfl (by decide) v xss.length vs hs h1 ad 1 c [u] hx rfl ?_ ?_ (by unfold maxLen; omega) (by omega) hbase ?_
  · intro j u' hj
    cases j with
    | zero =>
      simp at hj; subst hj
      obtain ⟨b, off, sp⟩ := ad
      have : (⟨b, off, sp⟩ : Addr).add 0 = ⟨b, off, sp⟩ := by simp [Addr.add]
      rw [this]; exact hc
    | succ j => simp at hj
  · intro u' hu'
    simp at hu'
    subst hu'
    obtain ⟨ao, cap, rfl⟩ := slice_of hu
    rfl
  · intro v' w' k1 k2 _
    refine hK v' w' ⟨vs ++ [u], by rw [List.length_append]; exact k1, fun i ys hy => ?_⟩ ((Below.refl base w).grown k2 hbase (fun k hk => (h1.lt k hk).1))
    have hlen : vs.length = xss.length := by have := h1.1; omega
    rcases Nat.lt_trichotomy i xss.length with h | h | h
    · rw [List.getElem?_append_left h] at hy
      obtain ⟨u', e1, e2⟩ := h2 i ys hy
      exact ⟨u', by rw [List.getElem?_append_left (by omega)]; exact e1, World.ownsRow.kept e2 k2 (own_apart e2 h1)⟩
    · subst h
      rw [List.getElem?_append_right (Nat.le_refl _)] at hy
      simp at hy
      subst hy
      refine ⟨u, ?_, World.ownsRow.kept hu k2 (own_apart hu h1)⟩
      rw [List.getElem?_append_right (by omega), hlen]
      simp
    · rw [List.getElem?_eq_none (by simp; omega)] at hy
      cases hy

theorem clip_any (A : Option Addr) (n c : Nat) (w : World) (hn : n ≤ c) :
    Calls Try.prog 45 #[.slice A n c] w fun e w' => e = .returned (.slice A n n) ∧ w = w' := by
  go_enter Try.func45, Try.ntmps45
  go_wp2_with fail
  go_ret
  exact ⟨rfl, rfl⟩

set_option maxHeartbeats 1000000 in
theorem sameInts_any (xs ys : List Nat) (A A' : Option Addr) (c c' : Nat) (w : World) (hx : xs.length ≤ 1000000) (hA : Ints w w.heap.size A (toI xs)) (hB : Ints w w.heap.size A' (toI ys)) :
    Calls Try.prog 34 #[.slice A xs.length c, .slice A' ys.length c'] w fun e w' => e = .returned (.bool (decide (xs = ys))) ∧ ∃ n, w' = w.drewN n := by
  by_cases hl : xs.length = ys.length
  · have t : ((xs.length : Int) != (ys.length : Int)) = false := by simp; omega
    have HA := Lib.hid hA
    have HB := Lib.hid hB
    have HLN := Lib.hid hl
    have hyl : ys.length ≤ xs.length := by omega
    have hxl : xs.length ≤ ys.length := by omega
    clear hA hB hl
    go_enter Try.func34, Try.ntmps34
    go_wp2
    go_loopw [5] (fun i wr => ∃ k q : Nat, k ≤ xs.length ∧ i = .int .i64 k ∧ wr = w.drewN q ∧ ∀ j, j < k → at_ xs j = at_ ys j) (fun i _ => xs.length - (intOf i).toNat)
    case atStart => exact ⟨0, 0, Nat.zero_le _, rfl, rfl, fun j hj => by omega⟩
    case round =>
      obtain ⟨k, q, hk, rfl, rfl, hs⟩ := hrel
      have HS := Lib.hid hs
      clear hs
      by_cases hlt : k < xs.length
      · have hlt' : k < ys.length := by omega
        obtain ⟨b, off, rfl, hb, hc⟩ := HA.out.atN hlt
        obtain ⟨b', off', rfl, hb', hd⟩ := HB.out.atN hlt'
        have ck := hc k hlt
        have dk := hd k hlt'
        clear hc hd
        have hk0 : (0 : Int) ≤ (k : Int) := by omega
        have hk1 : (k : Int) < (xs.length : Int) := by omega
        have hk1' : (k : Int) < (ys.length : Int) := by omega
        have hk2 : ((k : Int)).toNat = k := by omega
        by_cases he : at_ xs k = at_ ys k
        · have HE := Lib.hid he
          rw [he] at ck
          generalize at_ ys k = y at ck dk
          clear he
          have t2 : ((y : Int) != (y : Int)) = false := by simp
          go_wp2_with fail
          go_quiet (fail)
          go_wp2_with fail
          go_roundw
          case rel => exact ⟨k + 1, _, by omega, by go_num, rfl, fun j hj => by
            by_cases e : j = k
            · subst e; exact HE.out
            · exact HS.out j (by omega)⟩
          case measure => simp [intOf]; omega
        · have H := Lib.hid (show decide (xs = ys) = false from decide_eq_false (fun h => he (by rw [h])))
          generalize at_ xs k = x at ck he
          generalize at_ ys k = y at dk he
          have t2 : ((x : Int) != (y : Int)) = true := by simp; omega
          clear he
          go_wp2_with fail
          go_quiet (fail)
          go_wp2_with fail
          go_ret
          exact ⟨ret_bool (by rw [H.out]), _, World.drewN_drewN _ _ _⟩
      · have H := Lib.hid (show decide (xs = ys) = true from decide_eq_true (ext_at HLN.out (fun j hj => HS.out j (by omega))))
        go_wp2
        go_ret
        exact ⟨ret_bool (by rw [H.out]), _, rfl⟩
  · have t : ((xs.length : Int) != (ys.length : Int)) = true := by simp; omega
    have H := Lib.hid (show decide (xs = ys) = false from decide_eq_false (fun h => hl (by rw [h])))
    clear hl hA hB
    go_enter Try.func34, Try.ntmps34
    go_wp2
    go_ret
    exact ⟨ret_bool (by rw [H.out]), 0, rfl⟩

end Go.Proofs.Ytdflgcfjfgojkaa
