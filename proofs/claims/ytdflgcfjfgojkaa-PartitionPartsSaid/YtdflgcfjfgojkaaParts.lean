/-
  PartitionParts: the plain part, the contracts in its words, its argument.
-/
import Derived.Test.YtdflgcfjfgojkaaPairs
import Derived.Test.YtdflgcfjfgojkaaOpen
namespace Go.Proofs.Ytdflgcfjfgojkaa
open Go.RowKit

theorem gen_perm {n : Nat} {l m : List (Nat × Nat)} (hp : m.Perm l) (h : inR n l) : inR n m ∧ genS n m = genS n l := by
  have hm : inR n m := fun x hx => h x (hp.mem_iff.1 hx)
  refine ⟨hm, F.antisymm (V_gen hm) (V_gen h) (by rw [genS_length, genS_length]) ?_ ?_⟩
  · exact gen_least hm (fun x hx => gen_resp h x (hp.mem_iff.1 hx))
  · exact gen_least h (fun x hx => gen_resp hm x (hp.mem_iff.2 hx))
theorem inR_take {n : Nat} {l : List (Nat × Nat)} (h : inR n l) (k : Nat) : inR n (l.take k) := fun x hx => h x (List.mem_of_mem_take hx)
theorem inR_drop {n : Nat} {l : List (Nat × Nat)} (h : inR n l) (k : Nat) : inR n (l.drop k) := fun x hx => h x (List.mem_of_mem_drop hx)
theorem gen_split {n : Nat} {l : List (Nat × Nat)} (h : inR n l) (k : Nat) : joinS (genS n (l.take k)) (genS n (l.drop k)) = genS n l := by
  have h1 := inR_take h k
  have h2 := inR_drop h k
  have hr := gen_resp h
  refine (join_of (V_gen h1) (V_gen h2) (by rw [genS_length, genS_length]) (V_gen h) (by rw [genS_length, genS_length]) ?_ ?_ ?_).symm
  · exact gen_least h1 (fun x hx => hr x (List.mem_of_mem_take hx))
  · exact gen_least h2 (fun x hx => hr x (List.mem_of_mem_drop hx))
  · intro q k1 k2
    refine gen_least h (fun x hx => ?_)
    rw [← List.take_append_drop k l, List.mem_append] at hx
    rcases hx with hx | hx
    · exact k1.resp (by rw [genS_length]; exact h1) (gen_resp h1) x hx
    · exact k2.resp (by rw [genS_length]; exact h2) (gen_resp h2) x hx

/-- the pairs that bytes describe -/
def pairsOfB (qs : List (Nat × Nat)) : List (Nat × Nat) := qs.map fun x => (x.1 % 12, x.2 % 12)
theorem pairsOfB_inR (qs : List (Nat × Nat)) : inR 12 (pairsOfB qs) := by
  intro x hx
  obtain ⟨y, _, rfl⟩ := List.mem_map.1 hx
  exact ⟨Nat.mod_lt _ (by decide), Nat.mod_lt _ (by decide)⟩
theorem pairsOfB_take (qs : List (Nat × Nat)) {i : Nat} (h : i < qs.length) : (pairsOfB qs).take (i + 1) = (pairsOfB qs).take i ++ [((pAt qs i).1 % 12, (pAt qs i).2 % 12)] := by
  rw [List.take_succ_eq_append_getElem (by simpa [pairsOfB] using h)]
  simp [pairsOfB, pAt, List.getD, h]

/-- the slice at A reads as these arrays of two bytes, in a block below B -/
def Twos (w : World) (B : Nat) (A : Option Addr) (qs : List (Nat × Nat)) : Prop :=
  qs = [] ∨ ∃ b off, A = some ⟨b, off, none⟩ ∧ b < B ∧ ∀ i, i < qs.length → (pAt qs i).1 < 256 ∧ (pAt qs i).2 < 256 ∧ w.cell? ⟨b, off + i * 2, none⟩ = some (.int .u8 ((pAt qs i).1 : Nat)) ∧ w.cell? ⟨b, off + i * 2 + 1, none⟩ = some (.int .u8 ((pAt qs i).2 : Nat))
theorem Twos.at {w : World} {B : Nat} {A : Option Addr} {qs : List (Nat × Nat)} (h : Twos w B A qs) {k : Nat} (hk : k < qs.length) :
    ∃ b off, A = some ⟨b, off, none⟩ ∧ b < B ∧ (pAt qs k).1 < 256 ∧ (pAt qs k).2 < 256 ∧ w.cell? ⟨b, off + k * 2, none⟩ = some (.int .u8 ((pAt qs k).1 : Nat)) ∧ w.cell? ⟨b, off + k * 2 + 1, none⟩ = some (.int .u8 ((pAt qs k).2 : Nat)) := by
  rcases h with h | ⟨b, off, h1, h2, h3⟩
  · subst h; simp at hk
  · exact ⟨b, off, h1, h2, h3 k hk⟩
theorem Twos.below {w w' : World} {B : Nat} {A : Option Addr} {qs : List (Nat × Nat)} (h : Twos w B A qs) (hb : Below B w w') : Twos w' B A qs := by
  rcases h with h | ⟨b, off, h1, h2, h3⟩
  · exact .inl h
  · refine .inr ⟨b, off, h1, h2, fun i hi => ?_⟩
    obtain ⟨k1, k2, k3, k4⟩ := h3 i hi
    exact ⟨k1, k2, (hb.cell (p := ⟨b, off + i * 2, none⟩) h2).trans k3, (hb.cell (p := ⟨b, off + i * 2 + 1, none⟩) h2).trans k4⟩

theorem Pairs.take {w : World} {B : Nat} {A : Option Addr} {ps : List (Nat × Nat)} (h : Pairs w B A ps) (k : Nat) : Pairs w B A (ps.take k) := by
  rcases h with h | ⟨b, off, h1, h2, h3⟩
  · exact .inl (by rw [h]; simp)
  · refine .inr ⟨b, off, h1, h2, fun i hi => ?_⟩
    rw [List.length_take] at hi
    have e : (ps.take k).getD i (0, 0) = ps.getD i (0, 0) := by
      rw [List.getD_eq_getElem?_getD, List.getD_eq_getElem?_getD, List.getElem?_take, if_pos (by omega)]
    rw [e]
    exact h3 i (by omega)
theorem Pairs.drop {w : World} {B b off : Nat} {ps : List (Nat × Nat)} (h : Pairs w B (some ⟨b, off, none⟩) ps) (k : Nat) : Pairs w B (some ⟨b, off + k * 2, none⟩) (ps.drop k) := by
  rcases h with h | ⟨b', off', h1, h2, h3⟩
  · exact .inl (by rw [h]; simp)
  · injection h1 with h1
    injection h1 with e1 e2 _
    subst e1 e2
    refine .inr ⟨b, off + k * 2, rfl, h2, fun i hi => ?_⟩
    rw [List.length_drop] at hi
    have e : (ps.drop k).getD i (0, 0) = ps.getD (k + i) (0, 0) := by
      rw [List.getD_eq_getElem?_getD, List.getD_eq_getElem?_getD, List.getElem?_drop]
    rw [e, show off + k * 2 + i * 2 = off + (k + i) * 2 by omega]
    exact h3 (k + i) (by omega)

theorem genI (ps : List (Nat × Nat)) (n : Nat) (R : List Nat) (hR : genS 12 ps = R) (A : Option Addr) (c : Nat) (w : World) (hn : ps.length = n) (hl : n ≤ 1000) (hr : inR 12 ps) (hA : Pairs w w.heap.size A ps) :
    Calls Try.prog 30 #[.int .i64 12, .slice A n c] w fun e w' => ∃ A' c', e = .returned (.tuple #[.slice A' 12 c', .int .i64 0]) ∧ Own w' w.heap.size (.slice A' 12 c') R ∧ Below w.heap.size w w' := by
  subst hn hR
  refine (gen_ok 12 ps A c w (by decide) (by decide) (by omega) hr hA).mono ?_
  rintro e w' ⟨v, rfl, ho, hb⟩
  obtain ⟨A', c', rfl⟩ := slice_of ho
  rw [genS_length] at ho ⊢
  exact ⟨A', c', rfl, ho, hb⟩
theorem join12 (us vs R : List Nat) (hR : joinS us vs = R) (v v' : Value) (b b' : Nat) (w : World) (ha : V us) (hb : V vs) (hl : us.length = 12) (hl' : vs.length = 12) (hA : Own w b v us) (hB : Own w b' v' vs) :
    Calls Try.prog 20 #[v, v'] w fun e w' => ∃ A' c', e = .returned (.tuple #[.slice A' 12 c', .int .i64 0]) ∧ Own w' w.heap.size (.slice A' 12 c') R ∧ Below w.heap.size w w' := by
  subst hR
  refine (joinO us vs v v' b b' w ha hb (by omega) (by omega) hA hB).mono ?_
  rintro e w' ⟨r, rfl, ho, hb⟩
  obtain ⟨A', c', rfl⟩ := slice_of ho
  have e : (joinS us vs).length = 12 := by rw [joinS_length, hl]
  rw [e] at ho ⊢
  exact ⟨A', c', rfl, ho, hb⟩

/-- a row of ints and a row of pairs lie in different blocks -/
theorem own_apart_pair {w : World} {base base' g c n : Nat} {u : Value} {xs : List Nat} {ps : List (Nat × Nat)} (hu : Own w base u xs) (hv : OwnP w base' (.slice (some ⟨g, 0, none⟩) n c) ps) : u.ownBlock = none ∨ u.ownBlock ≠ some g := by
  rcases hu.2 with ⟨e, _⟩ | ⟨g', cap, cur, e, _, hg, _⟩
  · left; rw [e]; rfl
  · right
    rcases hv.2 with ⟨e', _⟩ | ⟨g2, cap', cur', e', _, hg', _⟩
    · cases e'
    · rw [e]
      simp only [Value.ownBlock]
      intro he
      injection he with he
      simp only [Value.slice.injEq, Option.some.injEq, Addr.mk.injEq, and_true] at e'
      rw [he, e'.1, hg'] at hg
      simp at hg

theorem pairs_of {w : World} {base n c : Nat} {A : Option Addr} {ps : List (Nat × Nat)} (h : OwnP w base (.slice A n c) ps) : Pairs w w.heap.size A ps := by
  obtain ⟨A', c', e, _, _, hP⟩ := OwnP.pairs h
  simp only [Value.slice.injEq] at e
  rw [e.1]
  exact hP

theorem reverseO (ps : List (Nat × Nat)) (g c n base : Nat) (w : World) (hn : n = ps.length) (hl : n ≤ 1000) (hbase : base ≤ w.heap.size) (hown : OwnP w base (.slice (some ⟨g, 0, none⟩) n c) ps) :
    Calls Try.prog 31 #[.slice (some ⟨g, 0, none⟩) n c] w fun e w' =>
      e = .returned (.tuple #[]) ∧ (∃ qs : List (Nat × Nat), qs.Perm ps ∧ OwnP w' base (.slice (some ⟨g, 0, none⟩) n c) qs) ∧ (∀ b u R, Own w b u R → Own w' b u R) ∧ Below base w w' := by
  subst hn
  refine (reverse_any ps g c base w (by omega) hown).mono ?_
  rintro e w' ⟨rfl, h1, h2⟩
  exact ⟨rfl, h1, fun b u R h => World.ownsRow.kept h h2 (own_apart_pair h hown), grown_below h2 (hown.lt g rfl).1 hbase⟩

theorem reverse_nil (w : World) : Calls Try.prog 31 #[.slice none 0 0] w fun e w' => e = .returned (.tuple #[]) ∧ w = w' := by
  go_enter Try.func31, Try.ntmps31
  go_wp2_with fail
  go_loopw [2, 3] (fun x y wr => x = .int .i64 0 ∧ y = .int .i64 (-1) ∧ wr = w) (fun _ _ _ => 0)
  case atStart => exact ⟨rfl, rfl, rfl⟩
  case round =>
    obtain ⟨rfl, rfl, rfl⟩ := hrel
    go_wp2_with fail
    go_end0
    exact ⟨rfl, rfl⟩

theorem cellsTwo : Try.prog.cellsOf 44 = 2 := by kernel_rfl

section
open Go.ChangeShapes Go.WideShapes Go.Deep

theorem byte_of {H : Type} {enc : TypeId × Value → H} {W : World} {fuel : Nat} {v : Value} {x : DataW H × List MemPlace}
    (h : DataW.trod enc Try.prog W 0 (fun _ => true) true fuel 5 [v] = some x) : ∃ n : Nat, v = .int .u8 (n : Int) ∧ n < 256 := by
  obtain ⟨n, e, _, hw⟩ := DataW.trod_int Try.underlying5 h
  simp [Lit.wf, IntKind.min, IntKind.max, IntKind.signed, IntKind.bits] at hw
  injection e with e
  exact ⟨n.toNat, by rw [e]; congr 1; omega, by omega⟩

theorem open_p {H : Type} {enc : TypeId × Value → H} {W : World} {fuel : Nat} {cs : List Value} {x : DataW H × List MemPlace}
    (h : DataW.trod enc Try.prog W 0 (fun _ => true) true fuel 42 cs = some x) :
    ∃ (A : Option Addr) (qs : List (Nat × Nat)) (c : Nat), cs = [.slice A qs.length c] ∧ Twos W W.heap.size A qs ∧ qs.length ≤ c ∧ c ≤ maxLen := by
  rcases open_slice Try.underlying42 h with ⟨rfl, rfl⟩ | ⟨a, len, cap, m, n, D, Pl, rfl, _, hlc, hcm, hm, rfl, hi⟩
  · exact ⟨none, [], 0, rfl, .inl rfl, by simp, by simp⟩
  · simp only [if_true] at hm
    subst hm
    have hget : ∀ i, ∃ t : Nat × Nat, i < len → W.cell? (a.add (i * 2)) = some (.int .u8 (t.1 : Int)) ∧ W.cell? (a.add (i * 2 + 1)) = some (.int .u8 (t.2 : Int)) ∧ t.1 < 256 ∧ t.2 < 256 := by
      intro i
      by_cases hil : i < len
      · obtain ⟨cs', hc, ht⟩ := hi i (by omega)
        rw [cellsTwo] at hc
        obtain ⟨_, hl2, hat⟩ := World.cells?_some hc
        obtain ⟨xs, k, _, _, _, hxl, hel⟩ := DataW.trod_array Try.underlying44 ht
        match cs', hl2 with
        | [c0, c1], _ =>
          have e0 := hel 0 (by decide)
          have e1 := hel 1 (by decide)
          rw [cellsByte] at e0 e1
          simp only [Nat.zero_mul, Nat.one_mul, List.drop_zero, List.take_succ_cons, List.take_zero, List.drop_succ_cons] at e0 e1
          rw [List.getElem?_eq_getElem (by omega)] at e0 e1
          obtain ⟨n0, rfl, b0⟩ := byte_of e0
          obtain ⟨n1, rfl, b1⟩ := byte_of e1
          refine ⟨(n0, n1), fun _ => ⟨?_, ?_, b0, b1⟩⟩
          · have := hat 0 (by omega)
            rw [add_add] at this
            simpa using this
          · have := hat 1 (by omega)
            rw [add_add] at this
            simpa using this
      · exact ⟨(0, 0), fun h => absurd h hil⟩
    obtain ⟨f, hf⟩ := Classical.axiomOfChoice hget
    have hlf : ((List.range len).map f).length = len := by simp
    refine ⟨some a, (List.range len).map f, m, by rw [hlf], ?_, by omega, hcm⟩
    by_cases h0 : len = 0
    · subst h0; exact .inl rfl
    · obtain ⟨b, off, spot⟩ := a
      have hc0 := (hf 0 (by omega)).1
      have hspot : spot = none := by simpa [Addr.add] using World.cell?_spot hc0
      subst hspot
      have hb : b < W.heap.size := by
        have := World.block_lt_of_cell? W _ hc0
        simpa [Addr.add] using this
      refine .inr ⟨b, off, rfl, hb, fun i hi' => ?_⟩
      rw [hlf] at hi'
      have e : pAt ((List.range len).map f) i = f i := by simp [pAt, List.getD, hi']
      obtain ⟨k0, k1, k2, k3⟩ := hf i hi'
      rw [addr_plain] at k0 k1
      rw [e]
      exact ⟨k2, k3, k0, k1⟩
end

end Go.Proofs.Ytdflgcfjfgojkaa
