import Derived.Test.YthnhacncnhknnaaDoorZ06
import Derived.Test.YthnhacncnhknnaaDoorZ10
import Derived.Test.YthnhacncnhknnaaDoorZ11
import Derived.Test.YthnhacncnhknnaaDoorZ01
import Derived.Test.YthnhacncnhknnaaDoorZ03
import Derived.Deep.RegionHeld3
import Derived.Test.YthnhacncnhknnaaDoorSSbL5
import Derived.Test.YthnhacncnhknnaaDoorZ08
import Derived.Test.YthnhacncnhknnaaDoorZ09
import Derived.Test.YthnhacncnhknnaaDoorChecked
import Derived.Test.YthnhacncnhknnaaDoorRows
import Derived.Test.YthnhacncnhknnaaDoorTie
import Derived.Test.YthnhacncnhknnaaDoorCards
import Derived.SizedLaws
/-
  Parts of graphs, the reference: All. Printed by mkr10.py.
-/
namespace Go.Proofs.YthnhacncnhknnaaDoor
open Go.RowKit Go.Shelf

theorem RowsP.app {w : World} {base : Nat} {rs ss : List (RSl × RSl)} {ps qs : List Mo} (h : RowsP w base rs ps) (k : RowsP w base ss qs) : RowsP w base (rs ++ ss) (ps ++ qs) := by
  refine ⟨by simp [h.1, k.1], fun i r x e1 e2 => ?_⟩
  by_cases hi : i < rs.length
  · rw [List.getElem?_append_left hi] at e1
    rw [List.getElem?_append_left (by rw [← h.1]; exact hi)] at e2
    exact h.2 i r x e1 e2
  · rw [List.getElem?_append_right (by omega)] at e1
    rw [List.getElem?_append_right (by rw [← h.1]; omega), ← h.1] at e2
    exact k.2 _ r x e1 e2
theorem RowsP.tk {w : World} {base : Nat} {rs : List (RSl × RSl)} {ps : List Mo} (h : RowsP w base rs ps) (k : Nat) : RowsP w base (rs.take k) (ps.take k) := ⟨by simp [h.1], fun i r x e1 e2 => by
  rw [List.getElem?_take] at e1 e2
  split at e1
  · rename_i hk
    rw [if_pos hk] at e2
    exact h.2 i r x e1 e2
  · cases e1⟩
theorem RowsP.dp {w : World} {base : Nat} {rs : List (RSl × RSl)} {ps : List Mo} (h : RowsP w base rs ps) (k : Nat) : RowsP w base (rs.drop k) (ps.drop k) := ⟨by simp [h.1], fun i r x e1 e2 => by
  rw [List.getElem?_drop] at e1 e2
  exact h.2 _ r x e1 e2⟩
theorem RowsP.ins {w : World} {base : Nat} {rs : List (RSl × RSl)} {ps : List Mo} {r : RSl × RSl} {x : Mo} (h : RowsP w base rs ps) (h1 : OwnI w base (rsv r.1) x.ns) (h2 : OwnI w base (rsv r.2) x.es) : RowsP w base (rs.take (posP ps x) ++ [r] ++ rs.drop (posP ps x)) (insP ps x) := by
  have e : insP ps x = ps.take (posP ps x) ++ [x] ++ ps.drop (posP ps x) := by unfold insP; simp
  rw [e]
  exact RowsP.app (RowsP.snoc (h.tk _) h1 h2) (h.dp _)
theorem reads_tk {α : Type} {E : El α} {w : World} {B : Nat} {A : Option Addr} {xs : List α} (h : Reads E w B A xs) (k : Nat) : Reads E w B A (xs.take k) := by
  rcases h with h | ⟨b, off, h1, h2, h3⟩
  · exact .inl (by rw [h]; simp)
  · exact .inr ⟨b, off, h1, h2, fun i x hx => h3 i x (by
      rw [List.getElem?_take] at hx
      split at hx
      · exact hx
      · cases hx)⟩
theorem reads_dp {α : Type} {E : El α} {w : World} {B b off : Nat} {xs : List α} (h : Reads E w B (some ⟨b, off, none⟩) xs) (k : Nat) : Reads E w B (some ⟨b, off + k * E.size, none⟩) (xs.drop k) := by
  rcases h with h | ⟨b', off', h1, h2, h3⟩
  · exact .inl (by rw [h]; simp)
  · injection h1 with h1
    injection h1 with e1 e2
    subst e1 e2
    exact .inr ⟨_, _, rfl, h2, fun i x hx q u hu => by
      rw [List.getElem?_drop] at hx
      have := h3 _ x hx q u hu
      rw [Nat.add_mul, ← Nat.add_assoc] at this
      exact this⟩
/-- a row of parts: nil, or a block of the call's own -/
theorem own_two {w : World} {base : Nat} {v : Value} {rs : List (RSl × RSl)} (h : OwnE ERp 27 w base v rs) : (v = .slice none 0 0 ∧ rs = []) ∨ ∃ g c, v = .slice (some ⟨g, 0, none⟩) rs.length c ∧ rs.length ≤ c := by
  have hs := h
  rcases h.2 with ⟨rfl, h2⟩ | ⟨g, cap, cur, rfl, _, _, hnc, _⟩
  · exact .inl ⟨rfl, List.length_eq_zero_iff.1 h2⟩
  · exact .inr ⟨g, cap, rfl, hnc⟩
theorem two_cellsP {W : World} {g : Nat} {u v : Value} {t : TypeId} {r : RSl × RSl} (h : W.heap[g]? = some (.cells #[u, v] t (0, 0))) (hu : u = rsv r.1) (hv : v = rsv r.2) : ∀ (j : Nat) (x : Value), (ERp.enc r)[j]? = some x → W.cell? ((⟨g, 0, none⟩ : Addr).add j) = some x := news_of (E := ERp) h (by rw [hu, hv]; rfl)
theorem setP_rng {g : Gr} {s : Nat} (h : g.ns.length + g.es.length ≤ 6) : (∀ x ∈ (setP g s).ns, 0 ≤ x ∧ x < 1000) ∧ (∀ x ∈ (setP g s).es, 0 ≤ x ∧ x < 1000) := by
  refine ⟨fun x hx => ?_, fun x hx => ?_⟩
  · have := sel_rng x hx
    omega
  · have := sel_rng x hx
    omega
theorem setP_len {g : Gr} {s : Nat} (h : g.ns.length + g.es.length ≤ 6) : (setP g s).ns.length ≤ 6 ∧ (setP g s).es.length ≤ 6 := ⟨Nat.le_trans (sel_le _ _) (by omega), Nat.le_trans (sel_le _ _) (by omega)⟩
theorem pAllTo_set {g : Gr} {k i : Nat} (hi : i < (pAllTo g k).length) : ∃ s, (pAllTo g k).getD i default = setP g s := by
  obtain ⟨s, _, _, e⟩ := pAllTo_mem.1 (getD_mem (d := default) hi)
  exact ⟨s, e⟩
theorem all_yes {g : Gr} {k : Nat} (h : rightE g (setP g k) = 0) : pAllTo g (k + 1) = insP (pAllTo g k) (setP g k) := by
  simp only [pAllTo]
  rw [if_pos h]
theorem all_no {g : Gr} {k : Nat} (h : rightE g (setP g k) ≠ 0) : pAllTo g (k + 1) = pAllTo g k := by
  simp only [pAllTo]
  rw [if_neg h]
theorem shl_oneI {n : Nat} (h : n ≤ 6) : wrap64 ((2 : Int) ^ n) = ((2 ^ n : Nat) : Int) := by
  have hn : n = 0 ∨ n = 1 ∨ n = 2 ∨ n = 3 ∨ n = 4 ∨ n = 5 ∨ n = 6 := by omega
  rcases hn with rfl | rfl | rfl | rfl | rfl | rfl | rfl <;> first | decide | (unfold wrap64; decide) | (simp [wrap64]; done) | go_num
theorem pow_six' {n : Nat} (h : n ≤ 6) : 0 < 2 ^ n ∧ 2 ^ n ≤ 64 := ⟨Nat.two_pow_pos n, by have := Nat.pow_le_pow_right (n := 2) (by omega) h; simpa using this⟩
def AllPo (E : Nat) (l : List Mo) (w : World) (e : Ending) (w' : World) : Prop := (∃ v, e = .returned (.tuple #[v, .int .i64 (E : Nat)]) ∧ IsP w' v l) ∧ Below w.heap.size w w'

set_option maxRecDepth 100000 in
set_option maxHeartbeats 8000000 in
theorem all7_any : AllC 38 := by
  intro g An cn Ae ce w _ hg
  suffices key : Calls Tryd.prog 38 #[gval An g.ns.length cn Ae g.es.length ce] w (AllPo (pAllE g) (pAllR g) w) from key
  have hS0 : SR w [(.slice An g.ns.length cn, .slice Ae g.es.length ce, 25)] (w.alloc (.cells #[.slice An g.ns.length cn, .slice Ae g.es.length ce] 25)) := SR.push (SR.nil w) rfl _ _ _
  have HV := Lib.hid (fun (u : World) (hu : Below w.heap.size w u) => validR_any g An cn Ae ce u (hg.up hu))
  have HRT := Lib.hid (fun (p : Mo) X x Y y (u : World) (hu : Below w.heap.size w u) (hp : PtAt u X Y p) => right7_any g p An cn Ae ce X x Y y u (hg.up hu) hp)
  have HE : Hid (pAllE g = if validE g ≠ 0 then validE g else if 6 < g.ns.length + g.es.length then 3 else 0) := Lib.hid rfl
  have HR : Hid (pAllR g = if pAllE g = 0 then pAllTo g (2 ^ (g.ns.length + g.es.length)) else []) := Lib.hid rfl
  have HZ := Lib.hid (fun (hv : validE g = 0) => valid_zero hv)
  have HS0 := Lib.hid hS0
  clear hS0 hg
  generalize pAllR g = R at *
  generalize pAllE g = E at *
  go_enter Tryd.func38, Tryd.ntmps38
  obtain ⟨c0, c1⟩ := HS0.out.cell (i := 0) rfl
  simp only [Nat.add_zero] at c0 c1
  go_wp2_with fail
  refine (HV.out _ HS0.out.1).mono ?_
  rintro e w1 ⟨rfl, hb1⟩
  have HS1 := Lib.hid (HS0.out.up hb1)
  clear hb1 HS0 HV c0 c1
  obtain ⟨c0, c1⟩ := HS1.out.cell (i := 0) rfl
  simp only [Nat.add_zero] at c0 c1
  by_cases h1 : validE g = 0
  case neg =>
    have HEE := Lib.hid (show E = validE g by rw [HE.out, if_pos h1])
    have HRR := Lib.hid (show R = [] by rw [HR.out, if_neg (by rw [HEE.out]; exact h1)])
    have t1 : ((validE g : Int) != 0) = true := by simp; omega
    clear h1
    generalize validE g = z at *
    go_wp2_with fail
    go_ret2
    rw [HRR.out, HEE.out]
    unfold AllPo
    exact ⟨⟨_, rfl, isP_nil _⟩, HS1.out.1⟩
  have HE2 := Lib.hid (show E = if 6 < g.ns.length + g.es.length then 3 else 0 by rw [HE.out, if_neg (by omega)])
  have t1 : ((validE g : Int) != 0) = false := by simp; omega
  obtain ⟨v1, v2, _⟩ := HZ.out h1
  clear h1 HE HZ
  generalize validE g = z at *
  by_cases h6 : 6 < g.ns.length + g.es.length
  case pos =>
    have HEE := Lib.hid (show E = 3 by rw [HE2.out, if_pos h6])
    have HRR := Lib.hid (show R = [] by rw [HR.out, if_neg (by rw [HEE.out]; omega)])
    have t2 : (6 : Int) < (g.ns.length : Int) + (g.es.length : Int) := by omega
    clear h6
    go_upto_region 4 with fail
    go_region
    all_goals
      go_wp2_with fail
      go_ret2
      rw [HRR.out, HEE.out]
      unfold AllPo
      exact ⟨⟨_, rfl, isP_nil _⟩, below_draws (HS1.out.1) _⟩
  have HEE := Lib.hid (show E = 0 by rw [HE2.out, if_neg h6])
  have HRR := Lib.hid (show R = pAllTo g (2 ^ (g.ns.length + g.es.length)) by rw [HR.out, if_pos HEE.out])
  have t2 : ¬ (6 : Int) < (g.ns.length : Int) + (g.es.length : Int) := by omega
  have h66 : g.ns.length + g.es.length ≤ 6 := by omega
  have HN6 := Lib.hid h66
  have s1 := shl_oneI h66
  have p1 := (pow_six' h66).2
  have HYES := Lib.hid (fun k (h : rightE g (setP g k) = 0) => all_yes h)
  have HNO := Lib.hid (fun k (h : rightE g (setP g k) ≠ 0) => all_no h)
  have HAL := Lib.hid (fun k => pAllTo_len g k)
  have HSET := Lib.hid (fun k i (h : i < (pAllTo g k).length) => pAllTo_set h)
  have HRNG := Lib.hid (fun s => setP_rng (g := g) (s := s) h66)
  have HLN := Lib.hid (fun s => setP_len (g := g) (s := s) h66)
  have HA0 : Hid (pAllTo g 0 = []) := Lib.hid rfl
  have HBN := Lib.hid (fun (s : Nat) (hs : s < 64) (u : World) => bits_any g.ns.length s u (by omega) hs)
  have HBE := Lib.hid (fun (s : Nat) (hs : s < 64) (u : World) => bits_any g.es.length (s >>> g.ns.length) u (by omega) (Nat.lt_of_le_of_lt (Nat.shiftRight_le _ _) hs))
  have HST : Hid (∀ s, setP g s = ⟨sel (fun i => s.testBit i) g.ns.length, sel (fun i => (s >>> g.ns.length).testBit i) g.es.length⟩) := Lib.hid fun _ => rfl
  clear h6 h66 HE2 HR
  generalize setP g = SP at *
  generalize pAllTo g = AT at *
  generalize rightE g = RE at *
  obtain ⟨N1, hN⟩ : ∃ N1, N1 = 2 ^ (g.ns.length + g.es.length) := ⟨_, rfl⟩
  rw [← hN] at s1 p1 HRR
  clear hN
  go_upto_region 4 with fail
  go_cut [5, 6] (fun u v wc => u = .int .i64 (g.ns.length : Int) ∧ v = .int .i64 (g.es.length : Int) ∧ SR w [(.slice An g.ns.length cn, .slice Ae g.es.length ce, 25)] wc)
  case first =>
    go_region
    all_goals
      go_wp2_with fail
      go_meet
      exact ⟨rfl, rfl, HS1.out.up (below_draws (Below.refl _ _) _)⟩
  case rest =>
    obtain ⟨rfl, rfl, hS2⟩ := hcut
    have HS2 := Lib.hid hS2
    clear hS2 HS1 c0 c1 t1
    go_wp2_with fail
    go_loopw [7, 8] (fun v x wr => ∃ (k : Nat) (rs : List (RSl × RSl)), k ≤ N1 ∧ x = .int .i64 (k : Int) ∧ OwnE ERp 27 wr w.heap.size v rs ∧ RowsP wr w.heap.size rs (AT k) ∧ SR w [(.slice An g.ns.length cn, .slice Ae g.es.length ce, 25)] wr) (fun _ x _ => N1 - (intOf x).toNat)
    case atStart => exact ⟨0, [], Nat.zero_le _, rfl, OwnE.nil _ _ _, ⟨by rw [HA0.out]; rfl, fun i r x h => by simp at h⟩, HS2.out⟩
    case round =>
      clear HS2
      obtain ⟨k, rs, hk, rfl, hO, hRW, hsr⟩ := hrel
      have HO := Lib.hid hO
      have HRW := Lib.hid hRW
      have HS := Lib.hid hsr
      clear hO hRW hsr
      by_cases hlt : k < N1
      · have HLT := Lib.hid hlt
        have HM : Hid (N1 - ((k : Int) + 1).toNat < N1 - ((k : Int)).toNat) := Lib.hid (by omega)
        have hlt2 : (k : Int) < (N1 : Int) := by omega
        have HK64 : Hid (k < 64) := Lib.hid (by omega)
        go_upto_region 11 with fail
        have HQ1 := Lib.hid (HBN.out k HK64.out)
        have HQ2 := Lib.hid (HBE.out k HK64.out)
        have sh : ((k : Int) / 2 ^ g.ns.length) = ((k >>> g.ns.length : Nat) : Int) := by rw [Nat.shiftRight_eq_div_pow, Int.natCast_ediv]; simp
        have HSTK := Lib.hid (HST.out k)
        have HLNK := Lib.hid (HLN.out k)
        have HRGK := Lib.hid (HRNG.out k)
        have HYK := Lib.hid (HYES.out k)
        have HNK := Lib.hid (HNO.out k)
        have HRL : Hid (rs.length ≤ 64) := Lib.hid (by have := HAL.out k; have := HRW.out.1; have := HK64.out; omega)
        have HLA : Hid (∀ x ∈ AT k, x.ns.length ≤ 1000 ∧ x.es.length ≤ 1000) := Lib.hid fun x hx => by
          obtain ⟨i, hi, e⟩ := List.getElem_of_mem hx
          obtain ⟨s, e2⟩ := HSET.out k i hi
          rw [List.getD_eq_getElem?_getD, List.getElem?_eq_getElem hi, Option.getD_some, e] at e2
          have := HLN.out s
          rw [e2]
          omega
        have HRA : Hid (∀ i, i < (AT k).length → (∀ x ∈ ((AT k).getD i default).ns, 0 ≤ x ∧ x < 1000) ∧ (∀ x ∈ ((AT k).getD i default).es, 0 ≤ x ∧ x < 1000)) := Lib.hid fun i hi => by
          obtain ⟨s, e2⟩ := HSET.out k i hi
          rw [e2]
          exact HRNG.out s
        rw [HSTK.out] at HLNK HRGK HYK HNK
        clear HBN HBE HST HLN HRNG HYES HNO HAL HSET HSTK
        generalize k >>> g.ns.length = kk at *
        generalize sel (fun i => k.testBit i) g.ns.length = L1 at *
        generalize sel (fun i => kk.testBit i) g.es.length = L2 at *
        have HSK := Lib.hid sh
        go_cut [9] (fun u wc => ∃ gx y1 y2, u = .pointer (some ⟨gx, 0, none⟩) ∧ BX gx y1 y2 27 wc ∧ OwnI wc wr.heap.size y1 L1 ∧ OwnI wc wr.heap.size y2 L2 ∧ Below wr.heap.size wr wc)
        case first =>
          have HVD := Lib.hid (below_d wr)
          have HDS : Hid (wr.drew.heap.size = wr.heap.size) := Lib.hid rfl
          have HM2 : Hid (∀ u, Below wr.drew.heap.size wr.drew u → (fun _ : World => True) u) := Lib.hid fun _ _ => trivial
          have WD0 := Lib.hid (Below.refl wr.drew.heap.size wr.drew)
          refine wp_region_noPanic ?_
          refine wp_region_held_drew (S := (fun _ : World => True)) (by kernel_rfl) (trivial) (fun hHeld => ?_)
          generalize wr.drew = wd at *
          refine wpAnyH_take (i := 0) (v := ?_) (oper_at (r := _) rfl) (by kernel_rfl) (by kernel_rfl) (by kernel_rfl) (fun _ _ _ h => h) (Or.inl ⟨by rfl, ?_⟩) (by assumption) ?_
          rotate_left
          · intro w hSw; try dsimp only at hSw
            go_simp
            try with_reducible rfl
          try simp only [Act.put, List.setIfInBounds_toArray, List.set_cons_zero, List.set_cons_succ]
          refine wpAnyH_take (i := 1) (v := ?_) (oper_at (r := _) rfl) (by kernel_rfl) (by kernel_rfl) (by kernel_rfl) (fun _ _ _ h => h) (Or.inl ⟨by rfl, ?_⟩) (by assumption) ?_
          rotate_left
          · intro w hSw; try dsimp only at hSw
            go_simp
            try with_reducible rfl
          try simp only [Act.put, List.setIfInBounds_toArray, List.set_cons_zero, List.set_cons_succ]
          refine wpAnyH_take (i := 3) (v := ?_) (oper_at (r := _) rfl) (by kernel_rfl) (by kernel_rfl) (by kernel_rfl) (fun _ _ _ h => h) (Or.inl ⟨by rfl, ?_⟩) (by assumption) ?_
          rotate_left
          · intro w hSw; try dsimp only at hSw
            go_simp
            try with_reducible rfl
          try simp only [Act.put, List.setIfInBounds_toArray, List.set_cons_zero, List.set_cons_succ]
          refine wpAnyH_take (i := 4) (v := ?_) (oper_at (r := _) rfl) (by kernel_rfl) (by kernel_rfl) (by kernel_rfl) (fun _ _ _ h => h) (Or.inl ⟨by rfl, ?_⟩) (by assumption) ?_
          rotate_left
          · intro w hSw; try dsimp only at hSw
            go_simp
            try with_reducible rfl
          try simp only [Act.put, List.setIfInBounds_toArray, List.set_cons_zero, List.set_cons_succ]
          refine wpAnyH_take (i := 5) (v := ?_) (oper_at (r := _) rfl) (by kernel_rfl) (by kernel_rfl) (by kernel_rfl) (fun _ _ _ h => h) (Or.inl ⟨by rfl, ?_⟩) (by assumption) ?_
          rotate_left
          · intro w hSw; try dsimp only at hSw
            go_simp
            try with_reducible rfl
          try simp only [Act.put, List.setIfInBounds_toArray, List.set_cons_zero, List.set_cons_succ]
          refine wpAnyH_take (i := 6) (v := ?_) (oper_at (r := _) rfl) (by kernel_rfl) (by kernel_rfl) (by kernel_rfl) (fun _ _ _ h => h) (Or.inl ⟨by rfl, ?_⟩) (by assumption) ?_
          rotate_left
          · intro w hSw; try dsimp only at hSw
            go_simp
            try with_reducible rfl
          try simp only [Act.put, List.setIfInBounds_toArray, List.set_cons_zero, List.set_cons_succ]
          refine wpAnyH_ready (rs := [2, 9]) (by kernel_rfl) (by simp) ?_
          refine (AllReadyH.cons (oper_at (r := _) rfl) (fun K hK => ?_) (AllReadyH.cons (oper_at (r := _) rfl) (fun K hK => ?_) AllReadyH.nil))
          · skip
            go_simp
            have lw := WD0.out.size
            refine (HQ1.out wd).mono ?_
            rintro e W1 ⟨y1, rfl, ho, hb⟩
            have WD_W1 := Lib.hid (WD0.out.trans (hb.mono WD0.out.size))
            clear WD0
            have V1_W1 := Lib.hid (OwnE.mono ho lw)
            obtain ⟨a1, d1, rfl⟩ := OwnE.slice ho
            clear ho hb lw
            go_wp2_with fail
            refine hK.out _ _ (HM2.out _ WD_W1.out) (fun _ => ?_)
            clear hK K
            try simp only [Act.put, List.setIfInBounds_toArray, List.set_cons_zero, List.set_cons_succ]
            refine wpAnyH_ready (rs := [7, 9]) (by kernel_rfl) (by simp) ?_
            refine (AllReadyH.cons (oper_at (r := _) rfl) (fun K hK => ?_) (AllReadyH.cons (oper_at (r := _) rfl) (fun K hK => ?_) AllReadyH.nil))
            · skip
              go_simp
              have lw := WD_W1.out.size
              refine (HQ2.out W1).mono ?_
              rintro e W2 ⟨y2, rfl, ho, hb⟩
              have WD_W2 := Lib.hid (WD_W1.out.trans (hb.mono WD_W1.out.size))
              have V1_W2 := Lib.hid (OwnE.below V1_W1.out hb (Nat.le_refl _))
              clear WD_W1 V1_W1
              have V2_W2 := Lib.hid (OwnE.mono ho lw)
              obtain ⟨a2, d2, rfl⟩ := OwnE.slice ho
              clear ho hb lw
              go_wp2_with fail
              refine hK.out _ _ (HM2.out _ WD_W2.out) (fun _ => ?_)
              clear hK K
              try simp only [Act.put, List.setIfInBounds_toArray, List.set_cons_zero, List.set_cons_succ]
              refine wpAnyH_take (i := 8) (v := ?_) (oper_at (r := _) rfl) (by kernel_rfl) (by kernel_rfl) (by kernel_rfl) (fun _ _ _ h => h) (Or.inl ⟨by rfl, ?_⟩) (by assumption) ?_
              rotate_left
              · intro w hSw; try dsimp only at hSw
                go_simp
                try with_reducible rfl
              try simp only [Act.put, List.setIfInBounds_toArray, List.set_cons_zero, List.set_cons_succ]
              refine wpAnyH_ready (rs := [9]) (by kernel_rfl) (by simp) ?_
              refine AllReadyH.cons (oper_at (r := _) rfl) (fun K hK => ?_) AllReadyH.nil
              obtain ⟨gx, hg⟩ : ∃ g, g = W2.heap.size := ⟨_, rfl⟩
              have lgx : wd.heap.size ≤ gx := by rw [hg]; exact WD_W2.out.size
              have hx : BX gx (.slice none 0 0) (.slice none 0 0) 27 (W2.alloc (.cells #[.slice none 0 0, .slice none 0 0] 27)) := by rw [hg]; exact heap_alloc_new _ _
              have hb : Below W2.heap.size W2 (W2.alloc (.cells #[.slice none 0 0, .slice none 0 0] 27)) := (Below.refl _ _).alloc (Nat.le_refl _) _
              have WD_W3 := Lib.hid (WD_W2.out.trans (hb.mono WD_W2.out.size))
              have V1_W3 := Lib.hid (OwnE.below V1_W2.out hb (Nat.le_refl _))
              have V2_W3 := Lib.hid (OwnE.below V2_W2.out hb (Nat.le_refl _))
              clear WD_W2 V1_W2 V2_W2
              have BA_W3 := Lib.hid hx
              clear hx hb
              go_simp
              refine hK.out _ _ (HM2.out _ WD_W3.out) (fun _ => ?_)
              clear hK K
              try simp only [Act.put, List.setIfInBounds_toArray, List.set_cons_zero, List.set_cons_succ]
              generalize W2.alloc (.cells #[.slice none 0 0, .slice none 0 0] 27) = W3 at *
              try rw [← hg]
              clear hg
              refine wpAnyH_ready (rs := [10]) (by kernel_rfl) (by simp) ?_
              refine AllReadyH.cons (oper_at (r := _) rfl) (fun K hK => ?_) AllReadyH.nil
              have fr0 := BA_W3.out.free 0
              have fr1 := BA_W3.out.free 1
              obtain ⟨e0, e1⟩ := BA_W3.out.cells
              go_simp
              clear fr0 fr1 e0 e1
              have WD_W4 := Lib.hid ((WD_W3.out.setCell (p := ⟨gx, 0, none⟩) (by show wd.heap.size ≤ gx; omega) (.slice a1 L1.length d1)).setCell (p := ⟨gx, 1, none⟩) (by show wd.heap.size ≤ gx; omega) (.slice a2 L2.length d2))
              have V1_W4 := Lib.hid (OwnE.store2 V1_W3.out ⟨_, _, BA_W3.out⟩ (by decide) (.slice a1 L1.length d1) (.slice a2 L2.length d2))
              have V2_W4 := Lib.hid (OwnE.store2 V2_W3.out ⟨_, _, BA_W3.out⟩ (by decide) (.slice a1 L1.length d1) (.slice a2 L2.length d2))
              have BA_W4 := Lib.hid (BA_W3.out.put (.slice a1 L1.length d1) (.slice a2 L2.length d2))
              clear WD_W3 V1_W3 V2_W3 BA_W3
              refine hK.out _ _ (HM2.out _ WD_W4.out) (fun _ => ?_)
              clear hK K
              try simp only [Act.put, List.setIfInBounds_toArray, List.set_cons_zero, List.set_cons_succ]
              generalize (W3.setCell ⟨gx, 0, none⟩ (.slice a1 L1.length d1)).setCell ⟨gx, 1, none⟩ (.slice a2 L2.length d2) = W4 at *
              refine wpAnyH_done (by kernel_rfl) ?_ _
              refine NoPanic.normal ?_
              go_wp2_with fail
              go_meet
              exact ⟨gx, _, _, rfl, BA_W4.out, by rw [← HDS.out]; exact V1_W4.out, by rw [← HDS.out]; exact V2_W4.out, HVD.out.trans (WD_W4.out.mono HVD.out.size)⟩
            · skip
              obtain ⟨gx, hg⟩ : ∃ g, g = W1.heap.size := ⟨_, rfl⟩
              have lgx : wd.heap.size ≤ gx := by rw [hg]; exact WD_W1.out.size
              have hx : BX gx (.slice none 0 0) (.slice none 0 0) 27 (W1.alloc (.cells #[.slice none 0 0, .slice none 0 0] 27)) := by rw [hg]; exact heap_alloc_new _ _
              have hb : Below W1.heap.size W1 (W1.alloc (.cells #[.slice none 0 0, .slice none 0 0] 27)) := (Below.refl _ _).alloc (Nat.le_refl _) _
              have WD_W5 := Lib.hid (WD_W1.out.trans (hb.mono WD_W1.out.size))
              have V1_W5 := Lib.hid (OwnE.below V1_W1.out hb (Nat.le_refl _))
              clear WD_W1 V1_W1
              have BA_W5 := Lib.hid hx
              clear hx hb
              go_simp
              refine hK.out _ _ (HM2.out _ WD_W5.out) (fun _ => ?_)
              clear hK K
              try simp only [Act.put, List.setIfInBounds_toArray, List.set_cons_zero, List.set_cons_succ]
              generalize W1.alloc (.cells #[.slice none 0 0, .slice none 0 0] 27) = W5 at *
              try rw [← hg]
              clear hg
              refine wpAnyH_ready (rs := [7]) (by kernel_rfl) (by simp) ?_
              refine AllReadyH.cons (oper_at (r := _) rfl) (fun K hK => ?_) AllReadyH.nil
              go_simp
              have lw := WD_W5.out.size
              refine (HQ2.out W5).mono ?_
              rintro e W6 ⟨y2, rfl, ho, hb⟩
              have WD_W6 := Lib.hid (WD_W5.out.trans (hb.mono WD_W5.out.size))
              have V1_W6 := Lib.hid (OwnE.below V1_W5.out hb (Nat.le_refl _))
              have BA_W6 := Lib.hid (BA_W5.out.up hb)
              clear WD_W5 V1_W5 BA_W5
              have V2_W6 := Lib.hid (OwnE.mono ho lw)
              obtain ⟨a2, d2, rfl⟩ := OwnE.slice ho
              clear ho hb lw
              go_wp2_with fail
              refine hK.out _ _ (HM2.out _ WD_W6.out) (fun _ => ?_)
              clear hK K
              try simp only [Act.put, List.setIfInBounds_toArray, List.set_cons_zero, List.set_cons_succ]
              refine wpAnyH_take (i := 8) (v := ?_) (oper_at (r := _) rfl) (by kernel_rfl) (by kernel_rfl) (by kernel_rfl) (fun _ _ _ h => h) (Or.inl ⟨by rfl, ?_⟩) (by assumption) ?_
              rotate_left
              · intro w hSw; try dsimp only at hSw
                go_simp
                try with_reducible rfl
              try simp only [Act.put, List.setIfInBounds_toArray, List.set_cons_zero, List.set_cons_succ]
              refine wpAnyH_ready (rs := [10]) (by kernel_rfl) (by simp) ?_
              refine AllReadyH.cons (oper_at (r := _) rfl) (fun K hK => ?_) AllReadyH.nil
              have fr0 := BA_W6.out.free 0
              have fr1 := BA_W6.out.free 1
              obtain ⟨e0, e1⟩ := BA_W6.out.cells
              go_simp
              clear fr0 fr1 e0 e1
              have WD_W7 := Lib.hid ((WD_W6.out.setCell (p := ⟨gx, 0, none⟩) (by show wd.heap.size ≤ gx; omega) (.slice a1 L1.length d1)).setCell (p := ⟨gx, 1, none⟩) (by show wd.heap.size ≤ gx; omega) (.slice a2 L2.length d2))
              have V1_W7 := Lib.hid (OwnE.store2 V1_W6.out ⟨_, _, BA_W6.out⟩ (by decide) (.slice a1 L1.length d1) (.slice a2 L2.length d2))
              have BA_W7 := Lib.hid (BA_W6.out.put (.slice a1 L1.length d1) (.slice a2 L2.length d2))
              have V2_W7 := Lib.hid (OwnE.store2 V2_W6.out ⟨_, _, BA_W6.out⟩ (by decide) (.slice a1 L1.length d1) (.slice a2 L2.length d2))
              clear WD_W6 V1_W6 BA_W6 V2_W6
              refine hK.out _ _ (HM2.out _ WD_W7.out) (fun _ => ?_)
              clear hK K
              try simp only [Act.put, List.setIfInBounds_toArray, List.set_cons_zero, List.set_cons_succ]
              generalize (W6.setCell ⟨gx, 0, none⟩ (.slice a1 L1.length d1)).setCell ⟨gx, 1, none⟩ (.slice a2 L2.length d2) = W7 at *
              refine wpAnyH_done (by kernel_rfl) ?_ _
              refine NoPanic.normal ?_
              go_wp2_with fail
              go_meet
              exact ⟨gx, _, _, rfl, BA_W7.out, by rw [← HDS.out]; exact V1_W7.out, by rw [← HDS.out]; exact V2_W7.out, HVD.out.trans (WD_W7.out.mono HVD.out.size)⟩
          · skip
            obtain ⟨gx, hg⟩ : ∃ g, g = wd.heap.size := ⟨_, rfl⟩
            have lgx : wd.heap.size ≤ gx := by rw [hg]; exact WD0.out.size
            have hx : BX gx (.slice none 0 0) (.slice none 0 0) 27 (wd.alloc (.cells #[.slice none 0 0, .slice none 0 0] 27)) := by rw [hg]; exact heap_alloc_new _ _
            have hb : Below wd.heap.size wd (wd.alloc (.cells #[.slice none 0 0, .slice none 0 0] 27)) := (Below.refl _ _).alloc (Nat.le_refl _) _
            have WD_W8 := Lib.hid (WD0.out.trans (hb.mono WD0.out.size))
            clear WD0
            have BA_W8 := Lib.hid hx
            clear hx hb
            go_simp
            refine hK.out _ _ (HM2.out _ WD_W8.out) (fun _ => ?_)
            clear hK K
            try simp only [Act.put, List.setIfInBounds_toArray, List.set_cons_zero, List.set_cons_succ]
            generalize wd.alloc (.cells #[.slice none 0 0, .slice none 0 0] 27) = W8 at *
            try rw [← hg]
            clear hg
            refine wpAnyH_ready (rs := [2]) (by kernel_rfl) (by simp) ?_
            refine AllReadyH.cons (oper_at (r := _) rfl) (fun K hK => ?_) AllReadyH.nil
            go_simp
            have lw := WD_W8.out.size
            refine (HQ1.out W8).mono ?_
            rintro e W9 ⟨y1, rfl, ho, hb⟩
            have WD_W9 := Lib.hid (WD_W8.out.trans (hb.mono WD_W8.out.size))
            have BA_W9 := Lib.hid (BA_W8.out.up hb)
            clear WD_W8 BA_W8
            have V1_W9 := Lib.hid (OwnE.mono ho lw)
            obtain ⟨a1, d1, rfl⟩ := OwnE.slice ho
            clear ho hb lw
            go_wp2_with fail
            refine hK.out _ _ (HM2.out _ WD_W9.out) (fun _ => ?_)
            clear hK K
            try simp only [Act.put, List.setIfInBounds_toArray, List.set_cons_zero, List.set_cons_succ]
            refine wpAnyH_ready (rs := [7]) (by kernel_rfl) (by simp) ?_
            refine AllReadyH.cons (oper_at (r := _) rfl) (fun K hK => ?_) AllReadyH.nil
            go_simp
            have lw := WD_W9.out.size
            refine (HQ2.out W9).mono ?_
            rintro e W10 ⟨y2, rfl, ho, hb⟩
            have WD_W10 := Lib.hid (WD_W9.out.trans (hb.mono WD_W9.out.size))
            have BA_W10 := Lib.hid (BA_W9.out.up hb)
            have V1_W10 := Lib.hid (OwnE.below V1_W9.out hb (Nat.le_refl _))
            clear WD_W9 BA_W9 V1_W9
            have V2_W10 := Lib.hid (OwnE.mono ho lw)
            obtain ⟨a2, d2, rfl⟩ := OwnE.slice ho
            clear ho hb lw
            go_wp2_with fail
            refine hK.out _ _ (HM2.out _ WD_W10.out) (fun _ => ?_)
            clear hK K
            try simp only [Act.put, List.setIfInBounds_toArray, List.set_cons_zero, List.set_cons_succ]
            refine wpAnyH_take (i := 8) (v := ?_) (oper_at (r := _) rfl) (by kernel_rfl) (by kernel_rfl) (by kernel_rfl) (fun _ _ _ h => h) (Or.inl ⟨by rfl, ?_⟩) (by assumption) ?_
            rotate_left
            · intro w hSw; try dsimp only at hSw
              go_simp
              try with_reducible rfl
            try simp only [Act.put, List.setIfInBounds_toArray, List.set_cons_zero, List.set_cons_succ]
            refine wpAnyH_ready (rs := [10]) (by kernel_rfl) (by simp) ?_
            refine AllReadyH.cons (oper_at (r := _) rfl) (fun K hK => ?_) AllReadyH.nil
            have fr0 := BA_W10.out.free 0
            have fr1 := BA_W10.out.free 1
            obtain ⟨e0, e1⟩ := BA_W10.out.cells
            go_simp
            clear fr0 fr1 e0 e1
            have WD_W11 := Lib.hid ((WD_W10.out.setCell (p := ⟨gx, 0, none⟩) (by show wd.heap.size ≤ gx; omega) (.slice a1 L1.length d1)).setCell (p := ⟨gx, 1, none⟩) (by show wd.heap.size ≤ gx; omega) (.slice a2 L2.length d2))
            have BA_W11 := Lib.hid (BA_W10.out.put (.slice a1 L1.length d1) (.slice a2 L2.length d2))
            have V1_W11 := Lib.hid (OwnE.store2 V1_W10.out ⟨_, _, BA_W10.out⟩ (by decide) (.slice a1 L1.length d1) (.slice a2 L2.length d2))
            have V2_W11 := Lib.hid (OwnE.store2 V2_W10.out ⟨_, _, BA_W10.out⟩ (by decide) (.slice a1 L1.length d1) (.slice a2 L2.length d2))
            clear WD_W10 BA_W10 V1_W10 V2_W10
            refine hK.out _ _ (HM2.out _ WD_W11.out) (fun _ => ?_)
            clear hK K
            try simp only [Act.put, List.setIfInBounds_toArray, List.set_cons_zero, List.set_cons_succ]
            generalize (W10.setCell ⟨gx, 0, none⟩ (.slice a1 L1.length d1)).setCell ⟨gx, 1, none⟩ (.slice a2 L2.length d2) = W11 at *
            refine wpAnyH_done (by kernel_rfl) ?_ _
            refine NoPanic.normal ?_
            go_wp2_with fail
            go_meet
            exact ⟨gx, _, _, rfl, BA_W11.out, by rw [← HDS.out]; exact V1_W11.out, by rw [← HDS.out]; exact V2_W11.out, HVD.out.trans (WD_W11.out.mono HVD.out.size)⟩
        case rest =>
          obtain ⟨gx, y1, y2, rfl, hx, ho1, ho2, hb⟩ := hcut
          obtain ⟨a1, d1, rfl⟩ := OwnE.slice ho1
          obtain ⟨a2, d2, rfl⟩ := OwnE.slice ho2
          have hs0 := HS.out.1.size
          have HX := Lib.hid hx
          have H1 := Lib.hid (OwnE.mono ho1 hs0)
          have H2 := Lib.hid (OwnE.mono ho2 hs0)
          have HSX := Lib.hid (HS.out.up hb)
          have HOX := Lib.hid (OwnE.below HO.out hb (Nat.le_refl _))
          have HRX := Lib.hid (RowsP.below HRW.out hb (Nat.le_refl _))
          have HPT : Hid (PtAt wc a1 a2 (⟨L1, L2⟩ : Mo)) := Lib.hid (by
            obtain ⟨Y1, z1, e1, q1⟩ := OwnE.reads ho1
            obtain ⟨Y2, z2, e2, q2⟩ := OwnE.reads ho2
            injection e1 with e1 _ _
            injection e2 with e2 _ _
            rw [← e1] at q1
            rw [← e2] at q2
            exact ⟨q1, q2, by have := HLNK.out.1; show L1.length ≤ 1000; dsimp only at this; omega, by have := HLNK.out.2; show L2.length ≤ 1000; dsimp only at this; omega⟩)
          clear hx ho1 ho2 hb hs0 HS HO HRW HQ1 HQ2 sh
          obtain ⟨b0, b1⟩ := HSX.out.cell (i := 0) rfl
          simp only [Nat.add_zero] at b0 b1
          obtain ⟨x0, x1⟩ := HX.out.cells
          have HQV := Lib.hid (HRT.out (⟨L1, L2⟩ : Mo) a1 d1 a2 d2 wc HSX.out.1 HPT.out)
          generalize RE ⟨L1, L2⟩ = r at *
          go_wp2_with fail
          refine HQV.out.mono ?_
          rintro e u4 ⟨rfl, hb4⟩
          have HX4 := Lib.hid (HX.out.up hb4)
          have HS4 := Lib.hid (HSX.out.up hb4)
          have HO4 := Lib.hid (OwnE.below HOX.out hb4 (Nat.le_refl _))
          have HR4 := Lib.hid (RowsP.below HRX.out hb4 (Nat.le_refl _))
          have H14 := Lib.hid (OwnE.below H1.out hb4 (Nat.le_refl _))
          have H24 := Lib.hid (OwnE.below H2.out hb4 (Nat.le_refl _))
          have HP4 := Lib.hid (HPT.out.up hb4)
          clear hb4 HX HSX HOX HRX H1 H2 HPT HQV b0 b1 x0 x1
          by_cases hr : r = 0
          case neg =>
            have HI2 := Lib.hid (HNK.out hr)
            have t3 : ((r : Int) != 0) = true := by simp; omega
            clear hr
            go_wp2_with fail
            go_roundw
            case rel => exact ⟨k + 1, rs, HLT.out, by go_num, HO4.out, by rw [HI2.out]; exact HR4.out, HS4.out⟩
            case measure => exact HM.out
          case pos =>
            have HI2 := Lib.hid (HYK.out hr)
            have t3 : ((r : Int) != 0) = false := by simp; omega
            clear hr HYK HNK
            have HPB := Lib.hid (fun i (h : i < posP (AT k) ⟨L1, L2⟩) => pos_before h)
            have HPH := Lib.hid (fun (h : posP (AT k) ⟨L1, L2⟩ < (AT k).length) => pos_here h)
            have HPL : Hid (posP (AT k) ⟨L1, L2⟩ ≤ rs.length) := Lib.hid (by rw [HR4.out.1]; exact pos_le _ _)
            have HINS : Hid (∀ u, RowsP u w.heap.size rs (AT k) → OwnI u w.heap.size (.slice a1 L1.length d1) L1 → OwnI u w.heap.size (.slice a2 L2.length d2) L2 → RowsP u w.heap.size (rs.take (posP (AT k) ⟨L1, L2⟩) ++ [((a1, L1.length, d1), (a2, L2.length, d2))] ++ rs.drop (posP (AT k) ⟨L1, L2⟩)) (insP (AT k) ⟨L1, L2⟩)) := Lib.hid fun u h h1 h2 => RowsP.ins (r := ((a1, L1.length, d1), (a2, L2.length, d2))) (x := ⟨L1, L2⟩) h h1 h2
            generalize insP (AT k) ⟨L1, L2⟩ = NX at *
            generalize posP (AT k) ⟨L1, L2⟩ = ps at *
            obtain ⟨ao, cap, rfl⟩ := OwnE.slice HO4.out
            go_wp2_with fail
            go_loopw [10] (fun v wr => ∃ j : Nat, j ≤ ps ∧ v = .int .i64 (j : Int) ∧ Below u4.heap.size u4 wr) (fun v _ => ps - (intOf v).toNat)
            case atStart => exact ⟨0, Nat.zero_le _, rfl, Below.refl _ _⟩
            case round =>
              obtain ⟨j, hj, rfl, hbj⟩ := hrel
              have HBJ := Lib.hid hbj
              have HX5 := Lib.hid (HX4.out.up hbj)
              have HO5 := Lib.hid (OwnE.below HO4.out hbj (Nat.le_refl _))
              have HR5 := Lib.hid (RowsP.below HR4.out hbj (Nat.le_refl _))
              have HP5 := Lib.hid (HP4.out.up hbj)
              clear hbj
              obtain ⟨x0, x1⟩ := HX5.out.cells
              by_cases hl : j < rs.length
              · have HJL : Hid (j < (AT k).length) := Lib.hid (by rw [← HR5.out.1]; exact hl)
                obtain ⟨A, n1, A', n2, hw, hpt⟩ := rows_at HR5.out HLA.out j
                obtain ⟨A0, c0, e0, hrd⟩ := OwnE.reads HO5.out
                injection e0 with e0 _ e02
                subst e0 e02
                have hg : rs[j]? = some (rs.getD j default) := by rw [List.getD_eq_getElem?_getD, List.getElem?_eq_getElem hl]; rfl
                rcases hrd with h0 | ⟨b, off, rfl, hbl, hc⟩
                · rw [h0] at hl; exact absurd hl (by simp)
                have k0 := hc j _ hg 0 (.slice A ((AT k).getD j default).ns.length n1) (by show (rwAt rs j)[0]? = _; rw [hw]; rfl)
                have k1 := hc j _ hg 1 (.slice A' ((AT k).getD j default).es.length n2) (by show (rwAt rs j)[1]? = _; rw [hw]; rfl)
                have HCP := Lib.hid (fun u (hu : Below wr.heap.size wr u) => cmp7_any ((AT k).getD j default) ⟨L1, L2⟩ A n1 A' n2 a1 d1 a2 d2 u (hpt.up hu) (HP5.out.up hu) (HRA.out j HJL.out).1 (HRA.out j HJL.out).2 HRGK.out.1 HRGK.out.2)
                have HLJ : Hid (cmpP ((AT k).getD j default) ⟨L1, L2⟩ < 0 → j < ps) := Lib.hid fun h => by
                  rcases Nat.lt_or_ge j ps with h2 | h2
                  · exact h2
                  · have e : j = ps := by omega
                    subst e
                    have := HPH.out HJL.out
                    omega
                have HEJ : Hid (¬ cmpP ((AT k).getD j default) ⟨L1, L2⟩ < 0 → j = ps) := Lib.hid fun h => by
                  rcases Nat.lt_or_ge j ps with h2 | h2
                  · exact absurd (HPB.out j h2) h
                  · omega
                have jb : j ≤ 64 := by have := HRL.out; omega
                have j0 : (0 : Int) ≤ (j : Int) := by omega
                have j1 : (j : Int) < (rs.length : Int) := by omega
                have j2 : ((j : Int)).toNat = j := by omega
                clear hpt hc hg hw
                generalize ((AT k).getD j default) = Q at *
                generalize cmpP Q ⟨L1, L2⟩ = cc at *
                go_upto_region 14 with fail
                have HM2 : Hid (∀ u, Below wr.drew.heap.size wr.drew u → (fun u : World => u.cell? ⟨gx, 0, none⟩ = some (.slice a1 L1.length d1) ∧ u.cell? ⟨gx, 1, none⟩ = some (.slice a2 L2.length d2) ∧ u.cell? ⟨b, off + j * 2, none⟩ = some (.slice A Q.ns.length n1) ∧ u.cell? ⟨b, off + j * 2 + 1, none⟩ = some (.slice A' Q.es.length n2)) u) := Lib.hid fun u hb => ⟨cell_up hb x0, cell_up hb x1, cell_up hb k0, cell_up hb k1⟩
                have HVD := Lib.hid (below_d wr)
                have WD0 := Lib.hid (Below.refl wr.drew.heap.size wr.drew)
                clear x0 x1 k0 k1
                refine wp_region_noPanic ?_
                refine wp_region_held_drew (S := (fun u : World => u.cell? ⟨gx, 0, none⟩ = some (.slice a1 L1.length d1) ∧ u.cell? ⟨gx, 1, none⟩ = some (.slice a2 L2.length d2) ∧ u.cell? ⟨b, off + j * 2, none⟩ = some (.slice A Q.ns.length n1) ∧ u.cell? ⟨b, off + j * 2 + 1, none⟩ = some (.slice A' Q.es.length n2))) (by kernel_rfl) (HM2.out _ WD0.out) (fun hHeld => ?_)
                generalize wr.drew = wd at *
                refine wpAnyH_take (i := 0) (v := ?_) (oper_at (r := _) rfl) (by kernel_rfl) (by kernel_rfl) (by kernel_rfl) (fun _ _ _ h => h) (Or.inl ⟨by rfl, ?_⟩) (by assumption) ?_
                rotate_left
                · intro w hSw; try dsimp only at hSw
                  go_simp
                  try with_reducible rfl
                try simp only [Act.put, List.setIfInBounds_toArray, List.set_cons_zero, List.set_cons_succ]
                refine wpAnyH_take (i := 1) (v := ?_) (oper_at (r := _) rfl) (by kernel_rfl) (by kernel_rfl) (by kernel_rfl) (fun _ _ _ h => h) (Or.inl ⟨by rfl, ?_⟩) (by assumption) ?_
                rotate_left
                · intro w hSw; try dsimp only at hSw
                  go_simp
                  try with_reducible rfl
                try simp only [Act.put, List.setIfInBounds_toArray, List.set_cons_zero, List.set_cons_succ]
                refine wpAnyH_take (i := 2) (v := ?_) (oper_at (r := _) rfl) (by kernel_rfl) (by kernel_rfl) (by kernel_rfl) (fun _ _ _ h => h) (Or.inl ⟨by rfl, ?_⟩) (by assumption) ?_
                rotate_left
                · intro w hSw; try dsimp only at hSw
                  go_simp
                  try with_reducible rfl
                try simp only [Act.put, List.setIfInBounds_toArray, List.set_cons_zero, List.set_cons_succ]
                refine wpAnyH_take (i := 3) (v := ?_) (oper_at (r := _) rfl) (by kernel_rfl) (by kernel_rfl) (by kernel_rfl) (fun _ _ _ h => h) (Or.inl ⟨by rfl, ?_⟩) (by assumption) ?_
                rotate_left
                · intro w hSw; try dsimp only at hSw
                  go_simp
                  try with_reducible rfl
                try simp only [Act.put, List.setIfInBounds_toArray, List.set_cons_zero, List.set_cons_succ]
                refine wpAnyH_take (i := 4) (v := ?_) (oper_at (r := _) rfl) (by kernel_rfl) (by kernel_rfl) (by kernel_rfl) (fun _ _ _ h => h) (Or.inl ⟨by rfl, ?_⟩) (by assumption) ?_
                rotate_left
                · intro w hSw; try dsimp only at hSw
                  go_simp
                  try with_reducible rfl
                try simp only [Act.put, List.setIfInBounds_toArray, List.set_cons_zero, List.set_cons_succ]
                refine wpAnyH_take (i := 5) (v := ?_) (oper_at (r := _) rfl) (by kernel_rfl) (by kernel_rfl) (by kernel_rfl) (fun _ _ _ h => h) (Or.inl ⟨by rfl, ?_⟩) (by assumption) ?_
                rotate_left
                · intro w hSw; try dsimp only at hSw
                  go_simp
                  try with_reducible rfl
                try simp only [Act.put, List.setIfInBounds_toArray, List.set_cons_zero, List.set_cons_succ]
                refine wpAnyH_take (i := 6) (v := ?_) (oper_at (r := _) rfl) (by kernel_rfl) (by kernel_rfl) (by kernel_rfl) (fun _ _ _ h => h) (Or.inl ⟨by rfl, ?_⟩) (by assumption) ?_
                rotate_left
                · intro w hSw; try dsimp only at hSw
                  go_simp
                  try with_reducible rfl
                try simp only [Act.put, List.setIfInBounds_toArray, List.set_cons_zero, List.set_cons_succ]
                refine wpAnyH_take (i := 7) (v := ?_) (oper_at (r := _) rfl) (by kernel_rfl) (by kernel_rfl) (by kernel_rfl) (fun _ _ _ h => h) (Or.inl ⟨by rfl, ?_⟩) (by assumption) ?_
                rotate_left
                · intro w hSw; try dsimp only at hSw
                  go_simp
                  try with_reducible rfl
                try simp only [Act.put, List.setIfInBounds_toArray, List.set_cons_zero, List.set_cons_succ]
                refine wpAnyH_take (i := 8) (v := ?_) (oper_at (r := _) rfl) (by kernel_rfl) (by kernel_rfl) (by kernel_rfl) (fun _ _ _ h => h) (Or.inl ⟨by rfl, ?_⟩) (by assumption) ?_
                rotate_left
                · intro w hSw; try dsimp only at hSw
                  go_simp
                  try with_reducible rfl
                try simp only [Act.put, List.setIfInBounds_toArray, List.set_cons_zero, List.set_cons_succ]
                refine wpAnyH_take (i := 9) (v := ?_) (oper_at (r := _) rfl) (by kernel_rfl) (by kernel_rfl) (by kernel_rfl) (fun _ _ _ h => h) (Or.inl ⟨by rfl, ?_⟩) (by assumption) ?_
                rotate_left
                · intro w hSw; try dsimp only at hSw
                  go_simp
                  try with_reducible rfl
                try simp only [Act.put, List.setIfInBounds_toArray, List.set_cons_zero, List.set_cons_succ]
                refine wpAnyH_ready (rs := [10]) (by kernel_rfl) (by simp) ?_
                refine AllReadyH.cons (oper_at (r := _) rfl) (fun K hK => ?_) AllReadyH.nil
                go_simp
                refine (HCP.out _ HVD.out).mono ?_
                rintro e u5 ⟨rfl, hb5⟩
                have HB5 := Lib.hid hb5
                clear hb5
                go_wp2_with fail
                refine hK.out _ _ (HM2.out _ HB5.out) (fun _ => ?_)
                clear hK K
                try simp only [Act.put, List.setIfInBounds_toArray, List.set_cons_zero, List.set_cons_succ]
                have HBB := Lib.hid (HBJ.out.trans ((HVD.out.trans (HB5.out.mono HVD.out.size)).mono HBJ.out.size))
                by_cases hcc : cc < 0
                · have HJP := Lib.hid (HLJ.out (by omega))
                  refine wpAnyH_take (i := 11) (v := ?_) (oper_at (r := _) rfl) (by kernel_rfl) (by kernel_rfl) (by kernel_rfl) (fun _ _ _ h => h) (Or.inl ⟨by rfl, ?_⟩) (by assumption) ?_
                  rotate_left
                  · intro w hSw; try dsimp only at hSw
                    go_simp
                    try with_reducible rfl
                  try simp only [Act.put, List.setIfInBounds_toArray, List.set_cons_zero, List.set_cons_succ]
                  refine wpAnyH_take (i := 12) (v := ?_) (oper_at (r := _) rfl) (by kernel_rfl) (by kernel_rfl) (by kernel_rfl) (fun _ _ _ h => h) (Or.inl ⟨by rfl, ?_⟩) (by assumption) ?_
                  rotate_left
                  · intro w hSw; try dsimp only at hSw
                    go_simp
                    try with_reducible rfl
                  try simp only [Act.put, List.setIfInBounds_toArray, List.set_cons_zero, List.set_cons_succ]
                  refine wpAnyH_done (by kernel_rfl) ?_ _
                  refine NoPanic.normal ?_
                  go_wp2_with fail
                  go_roundw
                  case rel =>
                    exact ⟨j + 1, HJP.out, by go_num, HBB.out⟩
                  case measure =>
                    have := HJP.out
                    simp [intOf]
                    omega
                · have HJP := Lib.hid (HEJ.out (by omega))
                  refine wpAnyH_take (i := 11) (v := ?_) (oper_at (r := _) rfl) (by kernel_rfl) (by kernel_rfl) (by kernel_rfl) (fun _ _ _ h => h) (Or.inl ⟨by rfl, ?_⟩) (by assumption) ?_
                  rotate_left
                  · intro w hSw; try dsimp only at hSw
                    go_simp
                    try with_reducible rfl
                  try simp only [Act.put, List.setIfInBounds_toArray, List.set_cons_zero, List.set_cons_succ]
                  refine wpAnyH_take (i := 12) (v := ?_) (oper_at (r := _) rfl) (by kernel_rfl) (by kernel_rfl) (by kernel_rfl) (fun _ _ _ h => h) (Or.inl ⟨by rfl, ?_⟩) (by assumption) ?_
                  rotate_left
                  · intro w hSw; try dsimp only at hSw
                    go_simp
                    try with_reducible rfl
                  try simp only [Act.put, List.setIfInBounds_toArray, List.set_cons_zero, List.set_cons_succ]
                  refine wpAnyH_done (by kernel_rfl) ?_ _
                  refine NoPanic.normal ?_
                  rw [HJP.out]
                  have hb5 := HBB.out
                  have HX5 := Lib.hid (HX4.out.up hb5)
                  have HS5 := Lib.hid (HS4.out.up hb5)
                  have HO5 := Lib.hid (OwnE.below HO4.out hb5 (Nat.le_refl _))
                  have HR5 := Lib.hid (RowsP.below HR4.out hb5 (Nat.le_refl _))
                  have H15 := Lib.hid (OwnE.below H14.out hb5 (Nat.le_refl _))
                  have H25 := Lib.hid (OwnE.below H24.out hb5 (Nat.le_refl _))
                  clear hb5 HX4 HS4 HO4 HR4 H14 H24 HP4 HPB HPH t3
                  go_upto_region 16 with fail
                  have HVD := Lib.hid (below_d u5)
                  have HX6 := Lib.hid (HX5.out.up HVD.out)
                  have HS6 := Lib.hid (HS5.out.up HVD.out)
                  have HO6 := Lib.hid (OwnE.below HO5.out HVD.out (Nat.le_refl _))
                  have HR6 := Lib.hid (RowsP.below HR5.out HVD.out (Nat.le_refl _))
                  have H16 := Lib.hid (OwnE.below H15.out HVD.out (Nat.le_refl _))
                  have H26 := Lib.hid (OwnE.below H25.out HVD.out (Nat.le_refl _))
                  obtain ⟨x0, x1⟩ := HX6.out.cells
                  have HM9 : Hid (∀ u, Below u5.drew.heap.size u5.drew u → (fun u : World => u.cell? ⟨gx, 0, none⟩ = some (.slice a1 L1.length d1) ∧ u.cell? ⟨gx, 1, none⟩ = some (.slice a2 L2.length d2)) u) := Lib.hid fun u hb => ⟨cell_up hb x0, cell_up hb x1⟩
                  have WD0 := Lib.hid (Below.refl u5.drew.heap.size u5.drew)
                  clear x0 x1 HX5 HS5 HO5 HR5 H15 H25
                  refine wp_region_noPanic ?_
                  refine wp_region_held_drew (S := (fun u : World => u.cell? ⟨gx, 0, none⟩ = some (.slice a1 L1.length d1) ∧ u.cell? ⟨gx, 1, none⟩ = some (.slice a2 L2.length d2))) (by kernel_rfl) (HM9.out _ WD0.out) (fun hHeld => ?_)
                  generalize u5.drew = wz at *
                  rcases own_two HO6.out with ⟨ho, he⟩ | ⟨g0, c9, ho, hnc⟩
                  · cases ho
                  · injection ho with e1 _ e2
                    injection e1 with e1
                    injection e1 with e1 e1b
                    have e1c := e1.symm
                    subst e1c e1b e2
                    have p0 : (0 : Int) ≤ (ps : Int) := by omega
                    have p1 : (ps : Int) ≤ (rs.length : Int) := by have := HPL.out; omega
                    have p2 : (ps : Int) ≤ (cap : Int) := by omega
                    have p3 : ((ps : Int)).toNat = ps := by omega
                    have HRD : Hid (Reads ERp wz wz.heap.size (some ⟨g0, 0, none⟩) rs) := Lib.hid (by
                      obtain ⟨A0, c0, e0, hrd⟩ := OwnE.reads HO6.out
                      injection e0 with e0 _ _
                      subst e0
                      exact hrd)
                    refine wpAnyH_take (i := 1) (v := ?_) (oper_at (r := _) rfl) (by kernel_rfl) (by kernel_rfl) (by kernel_rfl) (fun _ _ _ h => h) (Or.inl ⟨by rfl, ?_⟩) (by assumption) ?_
                    rotate_left
                    · intro w hSw; try dsimp only at hSw
                      go_simp
                      try with_reducible rfl
                    try simp only [Act.put, List.setIfInBounds_toArray, List.set_cons_zero, List.set_cons_succ]
                    refine wpAnyH_take (i := 2) (v := ?_) (oper_at (r := _) rfl) (by kernel_rfl) (by kernel_rfl) (by kernel_rfl) (fun _ _ _ h => h) (Or.inl ⟨by rfl, ?_⟩) (by assumption) ?_
                    rotate_left
                    · intro w hSw; try dsimp only at hSw
                      go_simp
                      try with_reducible rfl
                    try simp only [Act.put, List.setIfInBounds_toArray, List.set_cons_zero, List.set_cons_succ]
                    refine wpAnyH_take (i := 3) (v := ?_) (oper_at (r := _) rfl) (by kernel_rfl) (by kernel_rfl) (by kernel_rfl) (fun _ _ _ h => h) (Or.inl ⟨by rfl, ?_⟩) (by assumption) ?_
                    rotate_left
                    · intro w hSw; try dsimp only at hSw
                      go_simp
                      try with_reducible rfl
                    try simp only [Act.put, List.setIfInBounds_toArray, List.set_cons_zero, List.set_cons_succ]
                    refine wpAnyH_take (i := 5) (v := ?_) (oper_at (r := _) rfl) (by kernel_rfl) (by kernel_rfl) (by kernel_rfl) (fun _ _ _ h => h) (Or.inl ⟨by rfl, ?_⟩) (by assumption) ?_
                    rotate_left
                    · intro w hSw; try dsimp only at hSw
                      go_simp
                      try with_reducible rfl
                    try simp only [Act.put, List.setIfInBounds_toArray, List.set_cons_zero, List.set_cons_succ]
                    refine wpAnyH_take (i := 8) (v := ?_) (oper_at (r := _) rfl) (by kernel_rfl) (by kernel_rfl) (by kernel_rfl) (fun _ _ _ h => h) (Or.inl ⟨by rfl, ?_⟩) (by assumption) ?_
                    rotate_left
                    · intro w hSw; try dsimp only at hSw
                      go_simp
                      try with_reducible rfl
                    try simp only [Act.put, List.setIfInBounds_toArray, List.set_cons_zero, List.set_cons_succ]
                    refine wpAnyH_take (i := 9) (v := ?_) (oper_at (r := _) rfl) (by kernel_rfl) (by kernel_rfl) (by kernel_rfl) (fun _ _ _ h => h) (Or.inl ⟨by rfl, ?_⟩) (by assumption) ?_
                    rotate_left
                    · intro w hSw; try dsimp only at hSw
                      go_simp
                      try with_reducible rfl
                    try simp only [Act.put, List.setIfInBounds_toArray, List.set_cons_zero, List.set_cons_succ]
                    refine wpAnyH_take (i := 10) (v := ?_) (oper_at (r := _) rfl) (by kernel_rfl) (by kernel_rfl) (by kernel_rfl) (fun _ _ _ h => h) (Or.inl ⟨by rfl, ?_⟩) (by assumption) ?_
                    rotate_left
                    · intro w hSw; try dsimp only at hSw
                      go_simp
                      try with_reducible rfl
                    try simp only [Act.put, List.setIfInBounds_toArray, List.set_cons_zero, List.set_cons_succ]
                    refine wpAnyH_ready (rs := [0, 6]) (by kernel_rfl) (by simp) ?_
                    refine (AllReadyH.cons (oper_at (r := _) rfl) (fun K hK => ?_) (AllReadyH.cons (oper_at (r := _) rfl) (fun K hK => ?_) AllReadyH.nil))
                    · skip
                      obtain ⟨g1b, hg⟩ : ∃ g, g = wz.heap.size := ⟨_, rfl⟩
                      have lg1b : wz.heap.size ≤ g1b := by rw [hg]; exact WD0.out.size
                      have hx : (wz.alloc (.cells #[] 27)).heap[g1b]? = some (.cells #[] 27 (0, 0)) := by rw [hg]; exact heap_alloc_new _ _
                      have hb : Below wz.heap.size wz (wz.alloc (.cells #[] 27)) := (Below.refl _ _).alloc (Nat.le_refl _) _
                      have WD_W12 := Lib.hid (WD0.out.trans (hb.mono WD0.out.size))
                      clear WD0
                      have L0_W12 := Lib.hid hx
                      clear hx hb
                      go_simp
                      refine hK.out _ _ (HM9.out _ WD_W12.out) (fun _ => ?_)
                      clear hK K
                      try simp only [Act.put, List.setIfInBounds_toArray, List.set_cons_zero, List.set_cons_succ]
                      generalize wz.alloc (.cells #[] 27) = W12 at *
                      try rw [← hg]
                      clear hg
                      refine wpAnyH_ready (rs := [4, 6]) (by kernel_rfl) (by simp) ?_
                      refine (AllReadyH.cons (oper_at (r := _) rfl) (fun K hK => ?_) (AllReadyH.cons (oper_at (r := _) rfl) (fun K hK => ?_) AllReadyH.nil))
                      · skip
                        have hrd := reads_tk (Reads.up HRD.out WD_W12.out) ps
                        refine step_append_many (E := ERp) (by rfl) _ _ 60 27 (by rfl) Tryd.underlying60 infoPart rfl (by decide) (by decide) wz.heap.size (.slice (some ⟨g1b, 0, none⟩) 0 0) [] (by rfl) (OwnE.empty L0_W12.out lg1b) _ _ _ W12.heap.size (rs.take ps) (by rfl) (by have := HPL.out; simp <;> omega) (by first | exact hrd | exact hrd.1 | (split <;> first | exact hrd | exact hrd.1 (by omega) | exact hrd.2)) (by have := HRL.out; (simp <;> omega)) (by have := HRL.out; (simp <;> omega)) WD_W12.out.size ?_
                        intro v4 W13 ho hgr hb _
                        have WD_W13 := Lib.hid (WD_W12.out.trans hb)
                        have R4_W13 := Lib.hid (ho.cast (List.nil_append (rs.take ps)))
                        obtain ⟨a5, c5, rfl⟩ := OwnE.slice R4_W13.out
                        clear ho hgr hb hrd
                        refine hK.out _ _ (HM9.out _ WD_W13.out) (fun _ => ?_)
                        clear hK K
                        try simp only [Act.put, List.setIfInBounds_toArray, List.set_cons_zero, List.set_cons_succ]
                        generalize (rs.take ps).length = q4 at *
                        refine wpAnyH_ready (rs := [6]) (by kernel_rfl) (by simp) ?_
                        refine AllReadyH.cons (oper_at (r := _) rfl) (fun K hK => ?_) AllReadyH.nil
                        obtain ⟨g6b, hg⟩ : ∃ g, g = W13.heap.size := ⟨_, rfl⟩
                        have lg6b : wz.heap.size ≤ g6b := by rw [hg]; exact WD_W13.out.size
                        have hx : (W13.alloc (.cells #[.slice a1 L1.length d1, .slice a2 L2.length d2] 27)).heap[g6b]? = some (.cells #[.slice a1 L1.length d1, .slice a2 L2.length d2] 27 (0, 0)) := by rw [hg]; exact heap_alloc_new _ _
                        have hb : Below W13.heap.size W13 (W13.alloc (.cells #[.slice a1 L1.length d1, .slice a2 L2.length d2] 27)) := (Below.refl _ _).alloc (Nat.le_refl _) _
                        have WD_W14 := Lib.hid (WD_W13.out.trans (hb.mono WD_W13.out.size))
                        have R4_W14 := Lib.hid (OwnE.below R4_W13.out hb (Nat.le_refl _))
                        clear WD_W13 R4_W13
                        have L6_W14 := Lib.hid hx
                        clear hx hb
                        go_simp
                        refine hK.out _ _ (HM9.out _ WD_W14.out) (fun _ => ?_)
                        clear hK K
                        try simp only [Act.put, List.setIfInBounds_toArray, List.set_cons_zero, List.set_cons_succ]
                        generalize W13.alloc (.cells #[.slice a1 L1.length d1, .slice a2 L2.length d2] 27) = W14 at *
                        try rw [← hg]
                        clear hg
                        refine wpAnyH_ready (rs := [7]) (by kernel_rfl) (by simp) ?_
                        refine AllReadyH.cons (oper_at (r := _) rfl) (fun K hK => ?_) AllReadyH.nil
                        refine step_append_E (E := ERp) (by rfl) _ _ 60 27 (by rfl) Tryd.underlying60 infoPart rfl (by decide) (by decide) wz.heap.size (.slice a5 q4 c5) (rs.take ps) (by rfl) R4_W14.out ⟨g6b, 0, none⟩ 1 ((a1, L1.length, d1), (a2, L2.length, d2)) (by rfl) (two_cellsP L6_W14.out rfl rfl) (by have := HRL.out; (simp <;> omega)) WD_W14.out.size ?_
                        intro v7 W15 ho hgr hb
                        have WD_W15 := Lib.hid (WD_W14.out.trans hb)
                        have R7_W15 := Lib.hid ho
                        clear ho hgr hb
                        refine hK.out _ _ (HM9.out _ WD_W15.out) (fun _ => ?_)
                        clear hK K
                        try simp only [Act.put, List.setIfInBounds_toArray, List.set_cons_zero, List.set_cons_succ]
                        refine wpAnyH_ready (rs := [11]) (by kernel_rfl) (by simp) ?_
                        refine AllReadyH.cons (oper_at (r := _) rfl) (fun K hK => ?_) AllReadyH.nil
                        have hrd := (show (cap = ps → Reads ERp W15 W15.heap.size (some ⟨g0, 0, none⟩) (rs.drop ps)) ∧ Reads ERp W15 W15.heap.size (some ⟨g0, ps * 2, none⟩) (rs.drop ps) from ⟨fun h => .inl (List.drop_eq_nil_iff.2 (by omega)), by have := reads_dp (Reads.up HRD.out WD_W15.out) ps; rw [Nat.zero_add] at this; exact this⟩)
                        refine step_append_many (E := ERp) (by rfl) _ _ 60 27 (by rfl) Tryd.underlying60 infoPart rfl (by decide) (by decide) wz.heap.size v7 (rs.take ps ++ [((a1, L1.length, d1), (a2, L2.length, d2))]) (by rfl) R7_W15.out _ _ _ W15.heap.size (rs.drop ps) (by rfl) (by have := HPL.out; simp <;> omega) (by first | exact hrd | exact hrd.1 | (split <;> first | exact hrd | exact hrd.1 (by omega) | exact hrd.2)) (by have := HRL.out; (simp <;> omega)) (by have := HRL.out; (simp <;> omega)) WD_W15.out.size ?_
                        intro v11 W16 ho hgr hb _
                        have WD_W16 := Lib.hid (WD_W15.out.trans hb)
                        have R11 := Lib.hid (OwnE.mono ho (HS6.out.1.size))
                        clear ho hgr hb hrd
                        refine hK.out _ _ (HM9.out _ WD_W16.out) (fun _ => ?_)
                        clear hK K
                        try simp only [Act.put, List.setIfInBounds_toArray, List.set_cons_zero, List.set_cons_succ]
                        refine wpAnyH_take (i := 12) (v := ?_) (oper_at (r := _) rfl) (by kernel_rfl) (by kernel_rfl) (by kernel_rfl) (fun _ _ _ h => h) (Or.inl ⟨by rfl, ?_⟩) (by assumption) ?_
                        rotate_left
                        · intro w hSw; try dsimp only at hSw
                          go_simp
                          try with_reducible rfl
                        try simp only [Act.put, List.setIfInBounds_toArray, List.set_cons_zero, List.set_cons_succ]
                        have R12 := Lib.hid (HINS.out _ (RowsP.below HR6.out WD_W16.out (Nat.le_refl _)) (OwnE.below H16.out WD_W16.out (Nat.le_refl _)) (OwnE.below H26.out WD_W16.out (Nat.le_refl _)))
                        have R13 := Lib.hid (HS6.out.up WD_W16.out)
                        refine wpAnyH_done (by kernel_rfl) ?_ _
                        refine NoPanic.normal ?_
                        go_wp2_with fail
                        go_roundw
                        case rel => exact ⟨k + 1, _, HLT.out, by go_num, R11.out, by rw [HI2.out]; exact R12.out, R13.out⟩
                        case measure => exact HM.out
                      · skip
                        obtain ⟨g6b, hg⟩ : ∃ g, g = W12.heap.size := ⟨_, rfl⟩
                        have lg6b : wz.heap.size ≤ g6b := by rw [hg]; exact WD_W12.out.size
                        have hx : (W12.alloc (.cells #[.slice a1 L1.length d1, .slice a2 L2.length d2] 27)).heap[g6b]? = some (.cells #[.slice a1 L1.length d1, .slice a2 L2.length d2] 27 (0, 0)) := by rw [hg]; exact heap_alloc_new _ _
                        have hb : Below W12.heap.size W12 (W12.alloc (.cells #[.slice a1 L1.length d1, .slice a2 L2.length d2] 27)) := (Below.refl _ _).alloc (Nat.le_refl _) _
                        have nL0L6 : g1b ≠ g6b := by have := heap_lt L0_W12.out; omega
                        have WD_W17 := Lib.hid (WD_W12.out.trans (hb.mono WD_W12.out.size))
                        have L0_W17 := Lib.hid (heap_up hb L0_W12.out)
                        clear WD_W12 L0_W12
                        have L6_W17 := Lib.hid hx
                        clear hx hb
                        go_simp
                        refine hK.out _ _ (HM9.out _ WD_W17.out) (fun _ => ?_)
                        clear hK K
                        try simp only [Act.put, List.setIfInBounds_toArray, List.set_cons_zero, List.set_cons_succ]
                        generalize W12.alloc (.cells #[.slice a1 L1.length d1, .slice a2 L2.length d2] 27) = W17 at *
                        try rw [← hg]
                        clear hg
                        refine wpAnyH_ready (rs := [4]) (by kernel_rfl) (by simp) ?_
                        refine AllReadyH.cons (oper_at (r := _) rfl) (fun K hK => ?_) AllReadyH.nil
                        have hrd := reads_tk (Reads.up HRD.out WD_W17.out) ps
                        refine step_append_many (E := ERp) (by rfl) _ _ 60 27 (by rfl) Tryd.underlying60 infoPart rfl (by decide) (by decide) wz.heap.size (.slice (some ⟨g1b, 0, none⟩) 0 0) [] (by rfl) (OwnE.empty L0_W17.out lg1b) _ _ _ W17.heap.size (rs.take ps) (by rfl) (by have := HPL.out; simp <;> omega) (by first | exact hrd | exact hrd.1 | (split <;> first | exact hrd | exact hrd.1 (by omega) | exact hrd.2)) (by have := HRL.out; (simp <;> omega)) (by have := HRL.out; (simp <;> omega)) WD_W17.out.size ?_
                        intro v4 W18 ho hgr hb _
                        have L6_W18 : Hid (W18.heap[g6b]? = _) := Lib.hid ((hgr.block g6b (heap_lt L6_W17.out) (fun e => by have e2 : g6b = g1b := Option.some.inj e; first | exact nL0L6 e2.symm | exact nL6L0 e2)).trans L6_W17.out)
                        have WD_W18 := Lib.hid (WD_W17.out.trans hb)
                        have R4_W18 := Lib.hid (ho.cast (List.nil_append (rs.take ps)))
                        obtain ⟨a5, c5, rfl⟩ := OwnE.slice R4_W18.out
                        clear ho hgr hb hrd
                        refine hK.out _ _ (HM9.out _ WD_W18.out) (fun _ => ?_)
                        clear hK K
                        try simp only [Act.put, List.setIfInBounds_toArray, List.set_cons_zero, List.set_cons_succ]
                        generalize (rs.take ps).length = q4 at *
                        refine wpAnyH_ready (rs := [7]) (by kernel_rfl) (by simp) ?_
                        refine AllReadyH.cons (oper_at (r := _) rfl) (fun K hK => ?_) AllReadyH.nil
                        refine step_append_E (E := ERp) (by rfl) _ _ 60 27 (by rfl) Tryd.underlying60 infoPart rfl (by decide) (by decide) wz.heap.size (.slice a5 q4 c5) (rs.take ps) (by rfl) R4_W18.out ⟨g6b, 0, none⟩ 1 ((a1, L1.length, d1), (a2, L2.length, d2)) (by rfl) (two_cellsP L6_W18.out rfl rfl) (by have := HRL.out; (simp <;> omega)) WD_W18.out.size ?_
                        intro v7 W19 ho hgr hb
                        have WD_W19 := Lib.hid (WD_W18.out.trans hb)
                        have R7_W19 := Lib.hid ho
                        clear ho hgr hb
                        refine hK.out _ _ (HM9.out _ WD_W19.out) (fun _ => ?_)
                        clear hK K
                        try simp only [Act.put, List.setIfInBounds_toArray, List.set_cons_zero, List.set_cons_succ]
                        refine wpAnyH_ready (rs := [11]) (by kernel_rfl) (by simp) ?_
                        refine AllReadyH.cons (oper_at (r := _) rfl) (fun K hK => ?_) AllReadyH.nil
                        have hrd := (show (cap = ps → Reads ERp W19 W19.heap.size (some ⟨g0, 0, none⟩) (rs.drop ps)) ∧ Reads ERp W19 W19.heap.size (some ⟨g0, ps * 2, none⟩) (rs.drop ps) from ⟨fun h => .inl (List.drop_eq_nil_iff.2 (by omega)), by have := reads_dp (Reads.up HRD.out WD_W19.out) ps; rw [Nat.zero_add] at this; exact this⟩)
                        refine step_append_many (E := ERp) (by rfl) _ _ 60 27 (by rfl) Tryd.underlying60 infoPart rfl (by decide) (by decide) wz.heap.size v7 (rs.take ps ++ [((a1, L1.length, d1), (a2, L2.length, d2))]) (by rfl) R7_W19.out _ _ _ W19.heap.size (rs.drop ps) (by rfl) (by have := HPL.out; simp <;> omega) (by first | exact hrd | exact hrd.1 | (split <;> first | exact hrd | exact hrd.1 (by omega) | exact hrd.2)) (by have := HRL.out; (simp <;> omega)) (by have := HRL.out; (simp <;> omega)) WD_W19.out.size ?_
                        intro v11 W20 ho hgr hb _
                        have WD_W20 := Lib.hid (WD_W19.out.trans hb)
                        have R11 := Lib.hid (OwnE.mono ho (HS6.out.1.size))
                        clear ho hgr hb hrd
                        refine hK.out _ _ (HM9.out _ WD_W20.out) (fun _ => ?_)
                        clear hK K
                        try simp only [Act.put, List.setIfInBounds_toArray, List.set_cons_zero, List.set_cons_succ]
                        refine wpAnyH_take (i := 12) (v := ?_) (oper_at (r := _) rfl) (by kernel_rfl) (by kernel_rfl) (by kernel_rfl) (fun _ _ _ h => h) (Or.inl ⟨by rfl, ?_⟩) (by assumption) ?_
                        rotate_left
                        · intro w hSw; try dsimp only at hSw
                          go_simp
                          try with_reducible rfl
                        try simp only [Act.put, List.setIfInBounds_toArray, List.set_cons_zero, List.set_cons_succ]
                        have R12 := Lib.hid (HINS.out _ (RowsP.below HR6.out WD_W20.out (Nat.le_refl _)) (OwnE.below H16.out WD_W20.out (Nat.le_refl _)) (OwnE.below H26.out WD_W20.out (Nat.le_refl _)))
                        have R13 := Lib.hid (HS6.out.up WD_W20.out)
                        refine wpAnyH_done (by kernel_rfl) ?_ _
                        refine NoPanic.normal ?_
                        go_wp2_with fail
                        go_roundw
                        case rel => exact ⟨k + 1, _, HLT.out, by go_num, R11.out, by rw [HI2.out]; exact R12.out, R13.out⟩
                        case measure => exact HM.out
                    · skip
                      obtain ⟨g6b, hg⟩ : ∃ g, g = wz.heap.size := ⟨_, rfl⟩
                      have lg6b : wz.heap.size ≤ g6b := by rw [hg]; exact WD0.out.size
                      have hx : (wz.alloc (.cells #[.slice a1 L1.length d1, .slice a2 L2.length d2] 27)).heap[g6b]? = some (.cells #[.slice a1 L1.length d1, .slice a2 L2.length d2] 27 (0, 0)) := by rw [hg]; exact heap_alloc_new _ _
                      have hb : Below wz.heap.size wz (wz.alloc (.cells #[.slice a1 L1.length d1, .slice a2 L2.length d2] 27)) := (Below.refl _ _).alloc (Nat.le_refl _) _
                      have WD_W21 := Lib.hid (WD0.out.trans (hb.mono WD0.out.size))
                      clear WD0
                      have L6_W21 := Lib.hid hx
                      clear hx hb
                      go_simp
                      refine hK.out _ _ (HM9.out _ WD_W21.out) (fun _ => ?_)
                      clear hK K
                      try simp only [Act.put, List.setIfInBounds_toArray, List.set_cons_zero, List.set_cons_succ]
                      generalize wz.alloc (.cells #[.slice a1 L1.length d1, .slice a2 L2.length d2] 27) = W21 at *
                      try rw [← hg]
                      clear hg
                      refine wpAnyH_ready (rs := [0]) (by kernel_rfl) (by simp) ?_
                      refine AllReadyH.cons (oper_at (r := _) rfl) (fun K hK => ?_) AllReadyH.nil
                      obtain ⟨g1b, hg⟩ : ∃ g, g = W21.heap.size := ⟨_, rfl⟩
                      have lg1b : wz.heap.size ≤ g1b := by rw [hg]; exact WD_W21.out.size
                      have hx : (W21.alloc (.cells #[] 27)).heap[g1b]? = some (.cells #[] 27 (0, 0)) := by rw [hg]; exact heap_alloc_new _ _
                      have hb : Below W21.heap.size W21 (W21.alloc (.cells #[] 27)) := (Below.refl _ _).alloc (Nat.le_refl _) _
                      have nL6L0 : g6b ≠ g1b := by have := heap_lt L6_W21.out; omega
                      have WD_W22 := Lib.hid (WD_W21.out.trans (hb.mono WD_W21.out.size))
                      have L6_W22 := Lib.hid (heap_up hb L6_W21.out)
                      clear WD_W21 L6_W21
                      have L0_W22 := Lib.hid hx
                      clear hx hb
                      go_simp
                      refine hK.out _ _ (HM9.out _ WD_W22.out) (fun _ => ?_)
                      clear hK K
                      try simp only [Act.put, List.setIfInBounds_toArray, List.set_cons_zero, List.set_cons_succ]
                      generalize W21.alloc (.cells #[] 27) = W22 at *
                      try rw [← hg]
                      clear hg
                      refine wpAnyH_ready (rs := [4]) (by kernel_rfl) (by simp) ?_
                      refine AllReadyH.cons (oper_at (r := _) rfl) (fun K hK => ?_) AllReadyH.nil
                      have hrd := reads_tk (Reads.up HRD.out WD_W22.out) ps
                      refine step_append_many (E := ERp) (by rfl) _ _ 60 27 (by rfl) Tryd.underlying60 infoPart rfl (by decide) (by decide) wz.heap.size (.slice (some ⟨g1b, 0, none⟩) 0 0) [] (by rfl) (OwnE.empty L0_W22.out lg1b) _ _ _ W22.heap.size (rs.take ps) (by rfl) (by have := HPL.out; simp <;> omega) (by first | exact hrd | exact hrd.1 | (split <;> first | exact hrd | exact hrd.1 (by omega) | exact hrd.2)) (by have := HRL.out; (simp <;> omega)) (by have := HRL.out; (simp <;> omega)) WD_W22.out.size ?_
                      intro v4 W23 ho hgr hb _
                      have L6_W23 : Hid (W23.heap[g6b]? = _) := Lib.hid ((hgr.block g6b (heap_lt L6_W22.out) (fun e => by have e2 : g6b = g1b := Option.some.inj e; first | exact nL0L6 e2.symm | exact nL6L0 e2)).trans L6_W22.out)
                      have WD_W23 := Lib.hid (WD_W22.out.trans hb)
                      have R4_W23 := Lib.hid (ho.cast (List.nil_append (rs.take ps)))
                      obtain ⟨a5, c5, rfl⟩ := OwnE.slice R4_W23.out
                      clear ho hgr hb hrd
                      refine hK.out _ _ (HM9.out _ WD_W23.out) (fun _ => ?_)
                      clear hK K
                      try simp only [Act.put, List.setIfInBounds_toArray, List.set_cons_zero, List.set_cons_succ]
                      generalize (rs.take ps).length = q4 at *
                      refine wpAnyH_ready (rs := [7]) (by kernel_rfl) (by simp) ?_
                      refine AllReadyH.cons (oper_at (r := _) rfl) (fun K hK => ?_) AllReadyH.nil
                      refine step_append_E (E := ERp) (by rfl) _ _ 60 27 (by rfl) Tryd.underlying60 infoPart rfl (by decide) (by decide) wz.heap.size (.slice a5 q4 c5) (rs.take ps) (by rfl) R4_W23.out ⟨g6b, 0, none⟩ 1 ((a1, L1.length, d1), (a2, L2.length, d2)) (by rfl) (two_cellsP L6_W23.out rfl rfl) (by have := HRL.out; (simp <;> omega)) WD_W23.out.size ?_
                      intro v7 W24 ho hgr hb
                      have WD_W24 := Lib.hid (WD_W23.out.trans hb)
                      have R7_W24 := Lib.hid ho
                      clear ho hgr hb
                      refine hK.out _ _ (HM9.out _ WD_W24.out) (fun _ => ?_)
                      clear hK K
                      try simp only [Act.put, List.setIfInBounds_toArray, List.set_cons_zero, List.set_cons_succ]
                      refine wpAnyH_ready (rs := [11]) (by kernel_rfl) (by simp) ?_
                      refine AllReadyH.cons (oper_at (r := _) rfl) (fun K hK => ?_) AllReadyH.nil
                      have hrd := (show (cap = ps → Reads ERp W24 W24.heap.size (some ⟨g0, 0, none⟩) (rs.drop ps)) ∧ Reads ERp W24 W24.heap.size (some ⟨g0, ps * 2, none⟩) (rs.drop ps) from ⟨fun h => .inl (List.drop_eq_nil_iff.2 (by omega)), by have := reads_dp (Reads.up HRD.out WD_W24.out) ps; rw [Nat.zero_add] at this; exact this⟩)
                      refine step_append_many (E := ERp) (by rfl) _ _ 60 27 (by rfl) Tryd.underlying60 infoPart rfl (by decide) (by decide) wz.heap.size v7 (rs.take ps ++ [((a1, L1.length, d1), (a2, L2.length, d2))]) (by rfl) R7_W24.out _ _ _ W24.heap.size (rs.drop ps) (by rfl) (by have := HPL.out; simp <;> omega) (by first | exact hrd | exact hrd.1 | (split <;> first | exact hrd | exact hrd.1 (by omega) | exact hrd.2)) (by have := HRL.out; (simp <;> omega)) (by have := HRL.out; (simp <;> omega)) WD_W24.out.size ?_
                      intro v11 W25 ho hgr hb _
                      have WD_W25 := Lib.hid (WD_W24.out.trans hb)
                      have R11 := Lib.hid (OwnE.mono ho (HS6.out.1.size))
                      clear ho hgr hb hrd
                      refine hK.out _ _ (HM9.out _ WD_W25.out) (fun _ => ?_)
                      clear hK K
                      try simp only [Act.put, List.setIfInBounds_toArray, List.set_cons_zero, List.set_cons_succ]
                      refine wpAnyH_take (i := 12) (v := ?_) (oper_at (r := _) rfl) (by kernel_rfl) (by kernel_rfl) (by kernel_rfl) (fun _ _ _ h => h) (Or.inl ⟨by rfl, ?_⟩) (by assumption) ?_
                      rotate_left
                      · intro w hSw; try dsimp only at hSw
                        go_simp
                        try with_reducible rfl
                      try simp only [Act.put, List.setIfInBounds_toArray, List.set_cons_zero, List.set_cons_succ]
                      have R12 := Lib.hid (HINS.out _ (RowsP.below HR6.out WD_W25.out (Nat.le_refl _)) (OwnE.below H16.out WD_W25.out (Nat.le_refl _)) (OwnE.below H26.out WD_W25.out (Nat.le_refl _)))
                      have R13 := Lib.hid (HS6.out.up WD_W25.out)
                      refine wpAnyH_done (by kernel_rfl) ?_ _
                      refine NoPanic.normal ?_
                      go_wp2_with fail
                      go_roundw
                      case rel => exact ⟨k + 1, _, HLT.out, by go_num, R11.out, by rw [HI2.out]; exact R12.out, R13.out⟩
                      case measure => exact HM.out
              · have HJP : Hid (j = ps) := Lib.hid (by have := HPL.out; omega)
                have t4 : ¬ (j : Int) < (rs.length : Int) := by omega
                go_upto_region 14 with fail
                have HVD := Lib.hid (below_d wr)
                refine wp_region_noPanic ?_
                refine wp_region_held_drew (S := (fun _ : World => True)) (by kernel_rfl) (trivial) (fun hHeld => ?_)
                generalize wr.drew = wd at *
                refine wpAnyH_take (i := 0) (v := ?_) (oper_at (r := _) rfl) (by kernel_rfl) (by kernel_rfl) (by kernel_rfl) (fun _ _ _ h => h) (Or.inl ⟨by rfl, ?_⟩) (by assumption) ?_
                rotate_left
                · intro w hSw; try dsimp only at hSw
                  go_simp
                  try with_reducible rfl
                try simp only [Act.put, List.setIfInBounds_toArray, List.set_cons_zero, List.set_cons_succ]
                refine wpAnyH_take (i := 1) (v := ?_) (oper_at (r := _) rfl) (by kernel_rfl) (by kernel_rfl) (by kernel_rfl) (fun _ _ _ h => h) (Or.inl ⟨by rfl, ?_⟩) (by assumption) ?_
                rotate_left
                · intro w hSw; try dsimp only at hSw
                  go_simp
                  try with_reducible rfl
                try simp only [Act.put, List.setIfInBounds_toArray, List.set_cons_zero, List.set_cons_succ]
                refine wpAnyH_take (i := 2) (v := ?_) (oper_at (r := _) rfl) (by kernel_rfl) (by kernel_rfl) (by kernel_rfl) (fun _ _ _ h => h) (Or.inl ⟨by rfl, ?_⟩) (by assumption) ?_
                rotate_left
                · intro w hSw; try dsimp only at hSw
                  go_simp
                  try with_reducible rfl
                try simp only [Act.put, List.setIfInBounds_toArray, List.set_cons_zero, List.set_cons_succ]
                refine wpAnyH_take (i := 3) (v := ?_) (oper_at (r := _) rfl) (by kernel_rfl) (by kernel_rfl) (by kernel_rfl) (fun _ _ _ h => h) (Or.inl ⟨by rfl, ?_⟩) (by assumption) ?_
                rotate_left
                · intro w hSw; try dsimp only at hSw
                  go_simp
                  try with_reducible rfl
                try simp only [Act.put, List.setIfInBounds_toArray, List.set_cons_zero, List.set_cons_succ]
                refine wpAnyH_take (i := 4) (v := ?_) (oper_at (r := _) rfl) (by kernel_rfl) (by kernel_rfl) (by kernel_rfl) (fun _ _ _ h => h) (Or.inl ⟨by rfl, ?_⟩) (by assumption) ?_
                rotate_left
                · intro w hSw; try dsimp only at hSw
                  go_simp
                  try with_reducible rfl
                try simp only [Act.put, List.setIfInBounds_toArray, List.set_cons_zero, List.set_cons_succ]
                refine wpAnyH_take (i := 5) (v := undef) (oper_at (r := _) rfl) (by kernel_rfl) (by kernel_rfl) (by kernel_rfl) (fun _ _ _ h => h) (Or.inr ⟨by rfl, rfl⟩) (by assumption) ?_
                try simp only [Act.put, List.setIfInBounds_toArray, List.set_cons_zero, List.set_cons_succ]
                refine wpAnyH_take (i := 6) (v := undef) (oper_at (r := _) rfl) (by kernel_rfl) (by kernel_rfl) (by kernel_rfl) (fun _ _ _ h => h) (Or.inr ⟨by rfl, rfl⟩) (by assumption) ?_
                try simp only [Act.put, List.setIfInBounds_toArray, List.set_cons_zero, List.set_cons_succ]
                refine wpAnyH_take (i := 7) (v := undef) (oper_at (r := _) rfl) (by kernel_rfl) (by kernel_rfl) (by kernel_rfl) (fun _ _ _ h => h) (Or.inr ⟨by rfl, rfl⟩) (by assumption) ?_
                try simp only [Act.put, List.setIfInBounds_toArray, List.set_cons_zero, List.set_cons_succ]
                refine wpAnyH_take (i := 8) (v := undef) (oper_at (r := _) rfl) (by kernel_rfl) (by kernel_rfl) (by kernel_rfl) (fun _ _ _ h => h) (Or.inr ⟨by rfl, rfl⟩) (by assumption) ?_
                try simp only [Act.put, List.setIfInBounds_toArray, List.set_cons_zero, List.set_cons_succ]
                refine wpAnyH_take (i := 9) (v := undef) (oper_at (r := _) rfl) (by kernel_rfl) (by kernel_rfl) (by kernel_rfl) (fun _ _ _ h => h) (Or.inr ⟨by rfl, rfl⟩) (by assumption) ?_
                try simp only [Act.put, List.setIfInBounds_toArray, List.set_cons_zero, List.set_cons_succ]
                refine wpAnyH_ready (rs := [10]) (by kernel_rfl) (by simp) ?_
                refine AllReadyH.cons (oper_at (r := _) rfl) (fun K hK => ?_) AllReadyH.nil
                rw [if_neg (by rw [show Region.wanted _ _ = false from rfl]; exact Bool.false_ne_true)]
                refine hK.out _ _ (trivial) (fun _ => ?_)
                clear hK K
                try simp only [Act.put, List.setIfInBounds_toArray, List.set_cons_zero, List.set_cons_succ]
                refine wpAnyH_take (i := 11) (v := undef) (oper_at (r := _) rfl) (by kernel_rfl) (by kernel_rfl) (by kernel_rfl) (fun _ _ _ h => h) (Or.inr ⟨by rfl, rfl⟩) (by assumption) ?_
                try simp only [Act.put, List.setIfInBounds_toArray, List.set_cons_zero, List.set_cons_succ]
                refine wpAnyH_take (i := 12) (v := ?_) (oper_at (r := _) rfl) (by kernel_rfl) (by kernel_rfl) (by kernel_rfl) (fun _ _ _ h => h) (Or.inl ⟨by rfl, ?_⟩) (by assumption) ?_
                rotate_left
                · intro w hSw; try dsimp only at hSw
                  go_simp
                  try with_reducible rfl
                try simp only [Act.put, List.setIfInBounds_toArray, List.set_cons_zero, List.set_cons_succ]
                refine wpAnyH_done (by kernel_rfl) ?_ _
                refine NoPanic.normal ?_
                rw [HJP.out]
                have hb5 := HBJ.out.trans (HVD.out.mono HBJ.out.size)
                have HX5 := Lib.hid (HX4.out.up hb5)
                have HS5 := Lib.hid (HS4.out.up hb5)
                have HO5 := Lib.hid (OwnE.below HO4.out hb5 (Nat.le_refl _))
                have HR5 := Lib.hid (RowsP.below HR4.out hb5 (Nat.le_refl _))
                have H15 := Lib.hid (OwnE.below H14.out hb5 (Nat.le_refl _))
                have H25 := Lib.hid (OwnE.below H24.out hb5 (Nat.le_refl _))
                clear hb5 HX4 HS4 HO4 HR4 H14 H24 HP4 HPB HPH t3
                go_upto_region 16 with fail
                have HVD := Lib.hid (below_d wd)
                have HX6 := Lib.hid (HX5.out.up HVD.out)
                have HS6 := Lib.hid (HS5.out.up HVD.out)
                have HO6 := Lib.hid (OwnE.below HO5.out HVD.out (Nat.le_refl _))
                have HR6 := Lib.hid (RowsP.below HR5.out HVD.out (Nat.le_refl _))
                have H16 := Lib.hid (OwnE.below H15.out HVD.out (Nat.le_refl _))
                have H26 := Lib.hid (OwnE.below H25.out HVD.out (Nat.le_refl _))
                obtain ⟨x0, x1⟩ := HX6.out.cells
                have HM9 : Hid (∀ u, Below wd.drew.heap.size wd.drew u → (fun u : World => u.cell? ⟨gx, 0, none⟩ = some (.slice a1 L1.length d1) ∧ u.cell? ⟨gx, 1, none⟩ = some (.slice a2 L2.length d2)) u) := Lib.hid fun u hb => ⟨cell_up hb x0, cell_up hb x1⟩
                have WD0 := Lib.hid (Below.refl wd.drew.heap.size wd.drew)
                clear x0 x1 HX5 HS5 HO5 HR5 H15 H25
                refine wp_region_noPanic ?_
                refine wp_region_held_drew (S := (fun u : World => u.cell? ⟨gx, 0, none⟩ = some (.slice a1 L1.length d1) ∧ u.cell? ⟨gx, 1, none⟩ = some (.slice a2 L2.length d2))) (by kernel_rfl) (HM9.out _ WD0.out) (fun hHeld => ?_)
                generalize wd.drew = wz at *
                rcases own_two HO6.out with ⟨ho, he⟩ | ⟨g0, c9, ho, hnc⟩
                · have HE9 := Lib.hid he
                  clear he
                  injection ho with e1 _ e2
                  subst e1 e2
                  have e0 : ps = 0 := by have := HPL.out; rw [HE9.out] at this; simpa using this
                  subst e0
                  refine wpAnyH_take (i := 1) (v := ?_) (oper_at (r := _) rfl) (by kernel_rfl) (by kernel_rfl) (by kernel_rfl) (fun _ _ _ h => h) (Or.inl ⟨by rfl, ?_⟩) (by assumption) ?_
                  rotate_left
                  · intro w hSw; try dsimp only at hSw
                    go_simp
                    try with_reducible rfl
                  try simp only [Act.put, List.setIfInBounds_toArray, List.set_cons_zero, List.set_cons_succ]
                  refine wpAnyH_take (i := 2) (v := ?_) (oper_at (r := _) rfl) (by kernel_rfl) (by kernel_rfl) (by kernel_rfl) (fun _ _ _ h => h) (Or.inl ⟨by rfl, ?_⟩) (by assumption) ?_
                  rotate_left
                  · intro w hSw; try dsimp only at hSw
                    go_simp
                    try with_reducible rfl
                  try simp only [Act.put, List.setIfInBounds_toArray, List.set_cons_zero, List.set_cons_succ]
                  refine wpAnyH_take (i := 3) (v := ?_) (oper_at (r := _) rfl) (by kernel_rfl) (by kernel_rfl) (by kernel_rfl) (fun _ _ _ h => h) (Or.inl ⟨by rfl, ?_⟩) (by assumption) ?_
                  rotate_left
                  · intro w hSw; try dsimp only at hSw
                    go_simp
                    try with_reducible rfl
                  try simp only [Act.put, List.setIfInBounds_toArray, List.set_cons_zero, List.set_cons_succ]
                  refine wpAnyH_take (i := 5) (v := ?_) (oper_at (r := _) rfl) (by kernel_rfl) (by kernel_rfl) (by kernel_rfl) (fun _ _ _ h => h) (Or.inl ⟨by rfl, ?_⟩) (by assumption) ?_
                  rotate_left
                  · intro w hSw; try dsimp only at hSw
                    go_simp
                    try with_reducible rfl
                  try simp only [Act.put, List.setIfInBounds_toArray, List.set_cons_zero, List.set_cons_succ]
                  refine wpAnyH_take (i := 8) (v := ?_) (oper_at (r := _) rfl) (by kernel_rfl) (by kernel_rfl) (by kernel_rfl) (fun _ _ _ h => h) (Or.inl ⟨by rfl, ?_⟩) (by assumption) ?_
                  rotate_left
                  · intro w hSw; try dsimp only at hSw
                    go_simp
                    try with_reducible rfl
                  try simp only [Act.put, List.setIfInBounds_toArray, List.set_cons_zero, List.set_cons_succ]
                  refine wpAnyH_take (i := 9) (v := ?_) (oper_at (r := _) rfl) (by kernel_rfl) (by kernel_rfl) (by kernel_rfl) (fun _ _ _ h => h) (Or.inl ⟨by rfl, ?_⟩) (by assumption) ?_
                  rotate_left
                  · intro w hSw; try dsimp only at hSw
                    go_simp
                    try with_reducible rfl
                  try simp only [Act.put, List.setIfInBounds_toArray, List.set_cons_zero, List.set_cons_succ]
                  refine wpAnyH_take (i := 10) (v := ?_) (oper_at (r := _) rfl) (by kernel_rfl) (by kernel_rfl) (by kernel_rfl) (fun _ _ _ h => h) (Or.inl ⟨by rfl, ?_⟩) (by assumption) ?_
                  rotate_left
                  · intro w hSw; try dsimp only at hSw
                    go_simp
                    try with_reducible rfl
                  try simp only [Act.put, List.setIfInBounds_toArray, List.set_cons_zero, List.set_cons_succ]
                  refine wpAnyH_ready (rs := [0, 6]) (by kernel_rfl) (by simp) ?_
                  refine (AllReadyH.cons (oper_at (r := _) rfl) (fun K hK => ?_) (AllReadyH.cons (oper_at (r := _) rfl) (fun K hK => ?_) AllReadyH.nil))
                  · skip
                    obtain ⟨g1b, hg⟩ : ∃ g, g = wz.heap.size := ⟨_, rfl⟩
                    have lg1b : wz.heap.size ≤ g1b := by rw [hg]; exact WD0.out.size
                    have hx : (wz.alloc (.cells #[] 27)).heap[g1b]? = some (.cells #[] 27 (0, 0)) := by rw [hg]; exact heap_alloc_new _ _
                    have hb : Below wz.heap.size wz (wz.alloc (.cells #[] 27)) := (Below.refl _ _).alloc (Nat.le_refl _) _
                    have WD_W26 := Lib.hid (WD0.out.trans (hb.mono WD0.out.size))
                    clear WD0
                    have L0_W26 := Lib.hid hx
                    clear hx hb
                    go_simp
                    refine hK.out _ _ (HM9.out _ WD_W26.out) (fun _ => ?_)
                    clear hK K
                    try simp only [Act.put, List.setIfInBounds_toArray, List.set_cons_zero, List.set_cons_succ]
                    generalize wz.alloc (.cells #[] 27) = W26 at *
                    try rw [← hg]
                    clear hg
                    refine wpAnyH_ready (rs := [4, 6]) (by kernel_rfl) (by simp) ?_
                    refine (AllReadyH.cons (oper_at (r := _) rfl) (fun K hK => ?_) (AllReadyH.cons (oper_at (r := _) rfl) (fun K hK => ?_) AllReadyH.nil))
                    · skip
                      have hrd := (show Reads ERp W26 W26.heap.size none (rs.take 0) from .inl rfl)
                      refine step_append_many (E := ERp) (by rfl) _ _ 60 27 (by rfl) Tryd.underlying60 infoPart rfl (by decide) (by decide) wz.heap.size (.slice (some ⟨g1b, 0, none⟩) 0 0) [] (by rfl) (OwnE.empty L0_W26.out lg1b) _ _ _ W26.heap.size (rs.take 0) (by rfl) (by first | rfl | (simp [HE9.out])) (by first | exact hrd | exact hrd.1 | (split <;> first | exact hrd | exact hrd.1 (by omega) | exact hrd.2)) (by have := HRL.out; (simp <;> omega)) (by have := HRL.out; (simp <;> omega)) WD_W26.out.size ?_
                      intro v4 W27 ho hgr hb _
                      have WD_W27 := Lib.hid (WD_W26.out.trans hb)
                      have R4_W27 := Lib.hid (ho.cast (List.nil_append (rs.take 0)))
                      obtain ⟨a5, c5, rfl⟩ := OwnE.slice R4_W27.out
                      clear ho hgr hb hrd
                      refine hK.out _ _ (HM9.out _ WD_W27.out) (fun _ => ?_)
                      clear hK K
                      try simp only [Act.put, List.setIfInBounds_toArray, List.set_cons_zero, List.set_cons_succ]
                      generalize (rs.take 0).length = q4 at *
                      refine wpAnyH_ready (rs := [6]) (by kernel_rfl) (by simp) ?_
                      refine AllReadyH.cons (oper_at (r := _) rfl) (fun K hK => ?_) AllReadyH.nil
                      obtain ⟨g6b, hg⟩ : ∃ g, g = W27.heap.size := ⟨_, rfl⟩
                      have lg6b : wz.heap.size ≤ g6b := by rw [hg]; exact WD_W27.out.size
                      have hx : (W27.alloc (.cells #[.slice a1 L1.length d1, .slice a2 L2.length d2] 27)).heap[g6b]? = some (.cells #[.slice a1 L1.length d1, .slice a2 L2.length d2] 27 (0, 0)) := by rw [hg]; exact heap_alloc_new _ _
                      have hb : Below W27.heap.size W27 (W27.alloc (.cells #[.slice a1 L1.length d1, .slice a2 L2.length d2] 27)) := (Below.refl _ _).alloc (Nat.le_refl _) _
                      have WD_W28 := Lib.hid (WD_W27.out.trans (hb.mono WD_W27.out.size))
                      have R4_W28 := Lib.hid (OwnE.below R4_W27.out hb (Nat.le_refl _))
                      clear WD_W27 R4_W27
                      have L6_W28 := Lib.hid hx
                      clear hx hb
                      go_simp
                      refine hK.out _ _ (HM9.out _ WD_W28.out) (fun _ => ?_)
                      clear hK K
                      try simp only [Act.put, List.setIfInBounds_toArray, List.set_cons_zero, List.set_cons_succ]
                      generalize W27.alloc (.cells #[.slice a1 L1.length d1, .slice a2 L2.length d2] 27) = W28 at *
                      try rw [← hg]
                      clear hg
                      refine wpAnyH_ready (rs := [7]) (by kernel_rfl) (by simp) ?_
                      refine AllReadyH.cons (oper_at (r := _) rfl) (fun K hK => ?_) AllReadyH.nil
                      refine step_append_E (E := ERp) (by rfl) _ _ 60 27 (by rfl) Tryd.underlying60 infoPart rfl (by decide) (by decide) wz.heap.size (.slice a5 q4 c5) (rs.take 0) (by rfl) R4_W28.out ⟨g6b, 0, none⟩ 1 ((a1, L1.length, d1), (a2, L2.length, d2)) (by rfl) (two_cellsP L6_W28.out rfl rfl) (by have := HRL.out; (simp <;> omega)) WD_W28.out.size ?_
                      intro v7 W29 ho hgr hb
                      have WD_W29 := Lib.hid (WD_W28.out.trans hb)
                      have R7_W29 := Lib.hid ho
                      clear ho hgr hb
                      refine hK.out _ _ (HM9.out _ WD_W29.out) (fun _ => ?_)
                      clear hK K
                      try simp only [Act.put, List.setIfInBounds_toArray, List.set_cons_zero, List.set_cons_succ]
                      refine wpAnyH_ready (rs := [11]) (by kernel_rfl) (by simp) ?_
                      refine AllReadyH.cons (oper_at (r := _) rfl) (fun K hK => ?_) AllReadyH.nil
                      have hrd := (show Reads ERp W29 W29.heap.size none (rs.drop 0) from .inl (by rw [HE9.out]; rfl))
                      refine step_append_many (E := ERp) (by rfl) _ _ 60 27 (by rfl) Tryd.underlying60 infoPart rfl (by decide) (by decide) wz.heap.size v7 (rs.take 0 ++ [((a1, L1.length, d1), (a2, L2.length, d2))]) (by rfl) R7_W29.out _ _ _ W29.heap.size (rs.drop 0) (by rfl) (by first | rfl | (simp [HE9.out])) (by first | exact hrd | exact hrd.1 | (split <;> first | exact hrd | exact hrd.1 (by omega) | exact hrd.2)) (by have := HRL.out; (simp <;> omega)) (by have := HRL.out; (simp <;> omega)) WD_W29.out.size ?_
                      intro v11 W30 ho hgr hb _
                      have WD_W30 := Lib.hid (WD_W29.out.trans hb)
                      have R11 := Lib.hid (OwnE.mono ho (HS6.out.1.size))
                      clear ho hgr hb hrd
                      refine hK.out _ _ (HM9.out _ WD_W30.out) (fun _ => ?_)
                      clear hK K
                      try simp only [Act.put, List.setIfInBounds_toArray, List.set_cons_zero, List.set_cons_succ]
                      refine wpAnyH_take (i := 12) (v := ?_) (oper_at (r := _) rfl) (by kernel_rfl) (by kernel_rfl) (by kernel_rfl) (fun _ _ _ h => h) (Or.inl ⟨by rfl, ?_⟩) (by assumption) ?_
                      rotate_left
                      · intro w hSw; try dsimp only at hSw
                        go_simp
                        try with_reducible rfl
                      try simp only [Act.put, List.setIfInBounds_toArray, List.set_cons_zero, List.set_cons_succ]
                      have R12 := Lib.hid (HINS.out _ (RowsP.below HR6.out WD_W30.out (Nat.le_refl _)) (OwnE.below H16.out WD_W30.out (Nat.le_refl _)) (OwnE.below H26.out WD_W30.out (Nat.le_refl _)))
                      have R13 := Lib.hid (HS6.out.up WD_W30.out)
                      refine wpAnyH_done (by kernel_rfl) ?_ _
                      refine NoPanic.normal ?_
                      go_wp2_with fail
                      go_roundw
                      case rel => exact ⟨k + 1, _, HLT.out, by go_num, R11.out, by rw [HI2.out]; exact R12.out, R13.out⟩
                      case measure => exact HM.out
                    · skip
                      obtain ⟨g6b, hg⟩ : ∃ g, g = W26.heap.size := ⟨_, rfl⟩
                      have lg6b : wz.heap.size ≤ g6b := by rw [hg]; exact WD_W26.out.size
                      have hx : (W26.alloc (.cells #[.slice a1 L1.length d1, .slice a2 L2.length d2] 27)).heap[g6b]? = some (.cells #[.slice a1 L1.length d1, .slice a2 L2.length d2] 27 (0, 0)) := by rw [hg]; exact heap_alloc_new _ _
                      have hb : Below W26.heap.size W26 (W26.alloc (.cells #[.slice a1 L1.length d1, .slice a2 L2.length d2] 27)) := (Below.refl _ _).alloc (Nat.le_refl _) _
                      have nL0L6 : g1b ≠ g6b := by have := heap_lt L0_W26.out; omega
                      have WD_W31 := Lib.hid (WD_W26.out.trans (hb.mono WD_W26.out.size))
                      have L0_W31 := Lib.hid (heap_up hb L0_W26.out)
                      clear WD_W26 L0_W26
                      have L6_W31 := Lib.hid hx
                      clear hx hb
                      go_simp
                      refine hK.out _ _ (HM9.out _ WD_W31.out) (fun _ => ?_)
                      clear hK K
                      try simp only [Act.put, List.setIfInBounds_toArray, List.set_cons_zero, List.set_cons_succ]
                      generalize W26.alloc (.cells #[.slice a1 L1.length d1, .slice a2 L2.length d2] 27) = W31 at *
                      try rw [← hg]
                      clear hg
                      refine wpAnyH_ready (rs := [4]) (by kernel_rfl) (by simp) ?_
                      refine AllReadyH.cons (oper_at (r := _) rfl) (fun K hK => ?_) AllReadyH.nil
                      have hrd := (show Reads ERp W31 W31.heap.size none (rs.take 0) from .inl rfl)
                      refine step_append_many (E := ERp) (by rfl) _ _ 60 27 (by rfl) Tryd.underlying60 infoPart rfl (by decide) (by decide) wz.heap.size (.slice (some ⟨g1b, 0, none⟩) 0 0) [] (by rfl) (OwnE.empty L0_W31.out lg1b) _ _ _ W31.heap.size (rs.take 0) (by rfl) (by first | rfl | (simp [HE9.out])) (by first | exact hrd | exact hrd.1 | (split <;> first | exact hrd | exact hrd.1 (by omega) | exact hrd.2)) (by have := HRL.out; (simp <;> omega)) (by have := HRL.out; (simp <;> omega)) WD_W31.out.size ?_
                      intro v4 W32 ho hgr hb _
                      have L6_W32 : Hid (W32.heap[g6b]? = _) := Lib.hid ((hgr.block g6b (heap_lt L6_W31.out) (fun e => by have e2 : g6b = g1b := Option.some.inj e; first | exact nL0L6 e2.symm | exact nL6L0 e2)).trans L6_W31.out)
                      have WD_W32 := Lib.hid (WD_W31.out.trans hb)
                      have R4_W32 := Lib.hid (ho.cast (List.nil_append (rs.take 0)))
                      obtain ⟨a5, c5, rfl⟩ := OwnE.slice R4_W32.out
                      clear ho hgr hb hrd
                      refine hK.out _ _ (HM9.out _ WD_W32.out) (fun _ => ?_)
                      clear hK K
                      try simp only [Act.put, List.setIfInBounds_toArray, List.set_cons_zero, List.set_cons_succ]
                      generalize (rs.take 0).length = q4 at *
                      refine wpAnyH_ready (rs := [7]) (by kernel_rfl) (by simp) ?_
                      refine AllReadyH.cons (oper_at (r := _) rfl) (fun K hK => ?_) AllReadyH.nil
                      refine step_append_E (E := ERp) (by rfl) _ _ 60 27 (by rfl) Tryd.underlying60 infoPart rfl (by decide) (by decide) wz.heap.size (.slice a5 q4 c5) (rs.take 0) (by rfl) R4_W32.out ⟨g6b, 0, none⟩ 1 ((a1, L1.length, d1), (a2, L2.length, d2)) (by rfl) (two_cellsP L6_W32.out rfl rfl) (by have := HRL.out; (simp <;> omega)) WD_W32.out.size ?_
                      intro v7 W33 ho hgr hb
                      have WD_W33 := Lib.hid (WD_W32.out.trans hb)
                      have R7_W33 := Lib.hid ho
                      clear ho hgr hb
                      refine hK.out _ _ (HM9.out _ WD_W33.out) (fun _ => ?_)
                      clear hK K
                      try simp only [Act.put, List.setIfInBounds_toArray, List.set_cons_zero, List.set_cons_succ]
                      refine wpAnyH_ready (rs := [11]) (by kernel_rfl) (by simp) ?_
                      refine AllReadyH.cons (oper_at (r := _) rfl) (fun K hK => ?_) AllReadyH.nil
                      have hrd := (show Reads ERp W33 W33.heap.size none (rs.drop 0) from .inl (by rw [HE9.out]; rfl))
                      refine step_append_many (E := ERp) (by rfl) _ _ 60 27 (by rfl) Tryd.underlying60 infoPart rfl (by decide) (by decide) wz.heap.size v7 (rs.take 0 ++ [((a1, L1.length, d1), (a2, L2.length, d2))]) (by rfl) R7_W33.out _ _ _ W33.heap.size (rs.drop 0) (by rfl) (by first | rfl | (simp [HE9.out])) (by first | exact hrd | exact hrd.1 | (split <;> first | exact hrd | exact hrd.1 (by omega) | exact hrd.2)) (by have := HRL.out; (simp <;> omega)) (by have := HRL.out; (simp <;> omega)) WD_W33.out.size ?_
                      intro v11 W34 ho hgr hb _
                      have WD_W34 := Lib.hid (WD_W33.out.trans hb)
                      have R11 := Lib.hid (OwnE.mono ho (HS6.out.1.size))
                      clear ho hgr hb hrd
                      refine hK.out _ _ (HM9.out _ WD_W34.out) (fun _ => ?_)
                      clear hK K
                      try simp only [Act.put, List.setIfInBounds_toArray, List.set_cons_zero, List.set_cons_succ]
                      refine wpAnyH_take (i := 12) (v := ?_) (oper_at (r := _) rfl) (by kernel_rfl) (by kernel_rfl) (by kernel_rfl) (fun _ _ _ h => h) (Or.inl ⟨by rfl, ?_⟩) (by assumption) ?_
                      rotate_left
                      · intro w hSw; try dsimp only at hSw
                        go_simp
                        try with_reducible rfl
                      try simp only [Act.put, List.setIfInBounds_toArray, List.set_cons_zero, List.set_cons_succ]
                      have R12 := Lib.hid (HINS.out _ (RowsP.below HR6.out WD_W34.out (Nat.le_refl _)) (OwnE.below H16.out WD_W34.out (Nat.le_refl _)) (OwnE.below H26.out WD_W34.out (Nat.le_refl _)))
                      have R13 := Lib.hid (HS6.out.up WD_W34.out)
                      refine wpAnyH_done (by kernel_rfl) ?_ _
                      refine NoPanic.normal ?_
                      go_wp2_with fail
                      go_roundw
                      case rel => exact ⟨k + 1, _, HLT.out, by go_num, R11.out, by rw [HI2.out]; exact R12.out, R13.out⟩
                      case measure => exact HM.out
                  · skip
                    obtain ⟨g6b, hg⟩ : ∃ g, g = wz.heap.size := ⟨_, rfl⟩
                    have lg6b : wz.heap.size ≤ g6b := by rw [hg]; exact WD0.out.size
                    have hx : (wz.alloc (.cells #[.slice a1 L1.length d1, .slice a2 L2.length d2] 27)).heap[g6b]? = some (.cells #[.slice a1 L1.length d1, .slice a2 L2.length d2] 27 (0, 0)) := by rw [hg]; exact heap_alloc_new _ _
                    have hb : Below wz.heap.size wz (wz.alloc (.cells #[.slice a1 L1.length d1, .slice a2 L2.length d2] 27)) := (Below.refl _ _).alloc (Nat.le_refl _) _
                    have WD_W35 := Lib.hid (WD0.out.trans (hb.mono WD0.out.size))
                    clear WD0
                    have L6_W35 := Lib.hid hx
                    clear hx hb
                    go_simp
                    refine hK.out _ _ (HM9.out _ WD_W35.out) (fun _ => ?_)
                    clear hK K
                    try simp only [Act.put, List.setIfInBounds_toArray, List.set_cons_zero, List.set_cons_succ]
                    generalize wz.alloc (.cells #[.slice a1 L1.length d1, .slice a2 L2.length d2] 27) = W35 at *
                    try rw [← hg]
                    clear hg
                    refine wpAnyH_ready (rs := [0]) (by kernel_rfl) (by simp) ?_
                    refine AllReadyH.cons (oper_at (r := _) rfl) (fun K hK => ?_) AllReadyH.nil
                    obtain ⟨g1b, hg⟩ : ∃ g, g = W35.heap.size := ⟨_, rfl⟩
                    have lg1b : wz.heap.size ≤ g1b := by rw [hg]; exact WD_W35.out.size
                    have hx : (W35.alloc (.cells #[] 27)).heap[g1b]? = some (.cells #[] 27 (0, 0)) := by rw [hg]; exact heap_alloc_new _ _
                    have hb : Below W35.heap.size W35 (W35.alloc (.cells #[] 27)) := (Below.refl _ _).alloc (Nat.le_refl _) _
                    have nL6L0 : g6b ≠ g1b := by have := heap_lt L6_W35.out; omega
                    have WD_W36 := Lib.hid (WD_W35.out.trans (hb.mono WD_W35.out.size))
                    have L6_W36 := Lib.hid (heap_up hb L6_W35.out)
                    clear WD_W35 L6_W35
                    have L0_W36 := Lib.hid hx
                    clear hx hb
                    go_simp
                    refine hK.out _ _ (HM9.out _ WD_W36.out) (fun _ => ?_)
                    clear hK K
                    try simp only [Act.put, List.setIfInBounds_toArray, List.set_cons_zero, List.set_cons_succ]
                    generalize W35.alloc (.cells #[] 27) = W36 at *
                    try rw [← hg]
                    clear hg
                    refine wpAnyH_ready (rs := [4]) (by kernel_rfl) (by simp) ?_
                    refine AllReadyH.cons (oper_at (r := _) rfl) (fun K hK => ?_) AllReadyH.nil
                    have hrd := (show Reads ERp W36 W36.heap.size none (rs.take 0) from .inl rfl)
                    refine step_append_many (E := ERp) (by rfl) _ _ 60 27 (by rfl) Tryd.underlying60 infoPart rfl (by decide) (by decide) wz.heap.size (.slice (some ⟨g1b, 0, none⟩) 0 0) [] (by rfl) (OwnE.empty L0_W36.out lg1b) _ _ _ W36.heap.size (rs.take 0) (by rfl) (by first | rfl | (simp [HE9.out])) (by first | exact hrd | exact hrd.1 | (split <;> first | exact hrd | exact hrd.1 (by omega) | exact hrd.2)) (by have := HRL.out; (simp <;> omega)) (by have := HRL.out; (simp <;> omega)) WD_W36.out.size ?_
                    intro v4 W37 ho hgr hb _
                    have L6_W37 : Hid (W37.heap[g6b]? = _) := Lib.hid ((hgr.block g6b (heap_lt L6_W36.out) (fun e => by have e2 : g6b = g1b := Option.some.inj e; first | exact nL0L6 e2.symm | exact nL6L0 e2)).trans L6_W36.out)
                    have WD_W37 := Lib.hid (WD_W36.out.trans hb)
                    have R4_W37 := Lib.hid (ho.cast (List.nil_append (rs.take 0)))
                    obtain ⟨a5, c5, rfl⟩ := OwnE.slice R4_W37.out
                    clear ho hgr hb hrd
                    refine hK.out _ _ (HM9.out _ WD_W37.out) (fun _ => ?_)
                    clear hK K
                    try simp only [Act.put, List.setIfInBounds_toArray, List.set_cons_zero, List.set_cons_succ]
                    generalize (rs.take 0).length = q4 at *
                    refine wpAnyH_ready (rs := [7]) (by kernel_rfl) (by simp) ?_
                    refine AllReadyH.cons (oper_at (r := _) rfl) (fun K hK => ?_) AllReadyH.nil
                    refine step_append_E (E := ERp) (by rfl) _ _ 60 27 (by rfl) Tryd.underlying60 infoPart rfl (by decide) (by decide) wz.heap.size (.slice a5 q4 c5) (rs.take 0) (by rfl) R4_W37.out ⟨g6b, 0, none⟩ 1 ((a1, L1.length, d1), (a2, L2.length, d2)) (by rfl) (two_cellsP L6_W37.out rfl rfl) (by have := HRL.out; (simp <;> omega)) WD_W37.out.size ?_
                    intro v7 W38 ho hgr hb
                    have WD_W38 := Lib.hid (WD_W37.out.trans hb)
                    have R7_W38 := Lib.hid ho
                    clear ho hgr hb
                    refine hK.out _ _ (HM9.out _ WD_W38.out) (fun _ => ?_)
                    clear hK K
                    try simp only [Act.put, List.setIfInBounds_toArray, List.set_cons_zero, List.set_cons_succ]
                    refine wpAnyH_ready (rs := [11]) (by kernel_rfl) (by simp) ?_
                    refine AllReadyH.cons (oper_at (r := _) rfl) (fun K hK => ?_) AllReadyH.nil
                    have hrd := (show Reads ERp W38 W38.heap.size none (rs.drop 0) from .inl (by rw [HE9.out]; rfl))
                    refine step_append_many (E := ERp) (by rfl) _ _ 60 27 (by rfl) Tryd.underlying60 infoPart rfl (by decide) (by decide) wz.heap.size v7 (rs.take 0 ++ [((a1, L1.length, d1), (a2, L2.length, d2))]) (by rfl) R7_W38.out _ _ _ W38.heap.size (rs.drop 0) (by rfl) (by first | rfl | (simp [HE9.out])) (by first | exact hrd | exact hrd.1 | (split <;> first | exact hrd | exact hrd.1 (by omega) | exact hrd.2)) (by have := HRL.out; (simp <;> omega)) (by have := HRL.out; (simp <;> omega)) WD_W38.out.size ?_
                    intro v11 W39 ho hgr hb _
                    have WD_W39 := Lib.hid (WD_W38.out.trans hb)
                    have R11 := Lib.hid (OwnE.mono ho (HS6.out.1.size))
                    clear ho hgr hb hrd
                    refine hK.out _ _ (HM9.out _ WD_W39.out) (fun _ => ?_)
                    clear hK K
                    try simp only [Act.put, List.setIfInBounds_toArray, List.set_cons_zero, List.set_cons_succ]
                    refine wpAnyH_take (i := 12) (v := ?_) (oper_at (r := _) rfl) (by kernel_rfl) (by kernel_rfl) (by kernel_rfl) (fun _ _ _ h => h) (Or.inl ⟨by rfl, ?_⟩) (by assumption) ?_
                    rotate_left
                    · intro w hSw; try dsimp only at hSw
                      go_simp
                      try with_reducible rfl
                    try simp only [Act.put, List.setIfInBounds_toArray, List.set_cons_zero, List.set_cons_succ]
                    have R12 := Lib.hid (HINS.out _ (RowsP.below HR6.out WD_W39.out (Nat.le_refl _)) (OwnE.below H16.out WD_W39.out (Nat.le_refl _)) (OwnE.below H26.out WD_W39.out (Nat.le_refl _)))
                    have R13 := Lib.hid (HS6.out.up WD_W39.out)
                    refine wpAnyH_done (by kernel_rfl) ?_ _
                    refine NoPanic.normal ?_
                    go_wp2_with fail
                    go_roundw
                    case rel => exact ⟨k + 1, _, HLT.out, by go_num, R11.out, by rw [HI2.out]; exact R12.out, R13.out⟩
                    case measure => exact HM.out
                · injection ho with e1 _ e2
                  subst e1 e2
                  have p0 : (0 : Int) ≤ (ps : Int) := by omega
                  have p1 : (ps : Int) ≤ (rs.length : Int) := by have := HPL.out; omega
                  have p2 : (ps : Int) ≤ (cap : Int) := by omega
                  have p3 : ((ps : Int)).toNat = ps := by omega
                  have HRD : Hid (Reads ERp wz wz.heap.size (some ⟨g0, 0, none⟩) rs) := Lib.hid (by
                    obtain ⟨A0, c0, e0, hrd⟩ := OwnE.reads HO6.out
                    injection e0 with e0 _ _
                    subst e0
                    exact hrd)
                  refine wpAnyH_take (i := 1) (v := ?_) (oper_at (r := _) rfl) (by kernel_rfl) (by kernel_rfl) (by kernel_rfl) (fun _ _ _ h => h) (Or.inl ⟨by rfl, ?_⟩) (by assumption) ?_
                  rotate_left
                  · intro w hSw; try dsimp only at hSw
                    go_simp
                    try with_reducible rfl
                  try simp only [Act.put, List.setIfInBounds_toArray, List.set_cons_zero, List.set_cons_succ]
                  refine wpAnyH_take (i := 2) (v := ?_) (oper_at (r := _) rfl) (by kernel_rfl) (by kernel_rfl) (by kernel_rfl) (fun _ _ _ h => h) (Or.inl ⟨by rfl, ?_⟩) (by assumption) ?_
                  rotate_left
                  · intro w hSw; try dsimp only at hSw
                    go_simp
                    try with_reducible rfl
                  try simp only [Act.put, List.setIfInBounds_toArray, List.set_cons_zero, List.set_cons_succ]
                  refine wpAnyH_take (i := 3) (v := ?_) (oper_at (r := _) rfl) (by kernel_rfl) (by kernel_rfl) (by kernel_rfl) (fun _ _ _ h => h) (Or.inl ⟨by rfl, ?_⟩) (by assumption) ?_
                  rotate_left
                  · intro w hSw; try dsimp only at hSw
                    go_simp
                    try with_reducible rfl
                  try simp only [Act.put, List.setIfInBounds_toArray, List.set_cons_zero, List.set_cons_succ]
                  refine wpAnyH_take (i := 5) (v := ?_) (oper_at (r := _) rfl) (by kernel_rfl) (by kernel_rfl) (by kernel_rfl) (fun _ _ _ h => h) (Or.inl ⟨by rfl, ?_⟩) (by assumption) ?_
                  rotate_left
                  · intro w hSw; try dsimp only at hSw
                    go_simp
                    try with_reducible rfl
                  try simp only [Act.put, List.setIfInBounds_toArray, List.set_cons_zero, List.set_cons_succ]
                  refine wpAnyH_take (i := 8) (v := ?_) (oper_at (r := _) rfl) (by kernel_rfl) (by kernel_rfl) (by kernel_rfl) (fun _ _ _ h => h) (Or.inl ⟨by rfl, ?_⟩) (by assumption) ?_
                  rotate_left
                  · intro w hSw; try dsimp only at hSw
                    go_simp
                    try with_reducible rfl
                  try simp only [Act.put, List.setIfInBounds_toArray, List.set_cons_zero, List.set_cons_succ]
                  refine wpAnyH_take (i := 9) (v := ?_) (oper_at (r := _) rfl) (by kernel_rfl) (by kernel_rfl) (by kernel_rfl) (fun _ _ _ h => h) (Or.inl ⟨by rfl, ?_⟩) (by assumption) ?_
                  rotate_left
                  · intro w hSw; try dsimp only at hSw
                    go_simp
                    try with_reducible rfl
                  try simp only [Act.put, List.setIfInBounds_toArray, List.set_cons_zero, List.set_cons_succ]
                  refine wpAnyH_take (i := 10) (v := ?_) (oper_at (r := _) rfl) (by kernel_rfl) (by kernel_rfl) (by kernel_rfl) (fun _ _ _ h => h) (Or.inl ⟨by rfl, ?_⟩) (by assumption) ?_
                  rotate_left
                  · intro w hSw; try dsimp only at hSw
                    go_simp
                    try with_reducible rfl
                  try simp only [Act.put, List.setIfInBounds_toArray, List.set_cons_zero, List.set_cons_succ]
                  refine wpAnyH_ready (rs := [0, 6]) (by kernel_rfl) (by simp) ?_
                  refine (AllReadyH.cons (oper_at (r := _) rfl) (fun K hK => ?_) (AllReadyH.cons (oper_at (r := _) rfl) (fun K hK => ?_) AllReadyH.nil))
                  · skip
                    obtain ⟨g1b, hg⟩ : ∃ g, g = wz.heap.size := ⟨_, rfl⟩
                    have lg1b : wz.heap.size ≤ g1b := by rw [hg]; exact WD0.out.size
                    have hx : (wz.alloc (.cells #[] 27)).heap[g1b]? = some (.cells #[] 27 (0, 0)) := by rw [hg]; exact heap_alloc_new _ _
                    have hb : Below wz.heap.size wz (wz.alloc (.cells #[] 27)) := (Below.refl _ _).alloc (Nat.le_refl _) _
                    have WD_W40 := Lib.hid (WD0.out.trans (hb.mono WD0.out.size))
                    clear WD0
                    have L0_W40 := Lib.hid hx
                    clear hx hb
                    go_simp
                    refine hK.out _ _ (HM9.out _ WD_W40.out) (fun _ => ?_)
                    clear hK K
                    try simp only [Act.put, List.setIfInBounds_toArray, List.set_cons_zero, List.set_cons_succ]
                    generalize wz.alloc (.cells #[] 27) = W40 at *
                    try rw [← hg]
                    clear hg
                    refine wpAnyH_ready (rs := [4, 6]) (by kernel_rfl) (by simp) ?_
                    refine (AllReadyH.cons (oper_at (r := _) rfl) (fun K hK => ?_) (AllReadyH.cons (oper_at (r := _) rfl) (fun K hK => ?_) AllReadyH.nil))
                    · skip
                      have hrd := reads_tk (Reads.up HRD.out WD_W40.out) ps
                      refine step_append_many (E := ERp) (by rfl) _ _ 60 27 (by rfl) Tryd.underlying60 infoPart rfl (by decide) (by decide) wz.heap.size (.slice (some ⟨g1b, 0, none⟩) 0 0) [] (by rfl) (OwnE.empty L0_W40.out lg1b) _ _ _ W40.heap.size (rs.take ps) (by rfl) (by have := HPL.out; simp <;> omega) (by first | exact hrd | exact hrd.1 | (split <;> first | exact hrd | exact hrd.1 (by omega) | exact hrd.2)) (by have := HRL.out; (simp <;> omega)) (by have := HRL.out; (simp <;> omega)) WD_W40.out.size ?_
                      intro v4 W41 ho hgr hb _
                      have WD_W41 := Lib.hid (WD_W40.out.trans hb)
                      have R4_W41 := Lib.hid (ho.cast (List.nil_append (rs.take ps)))
                      obtain ⟨a5, c5, rfl⟩ := OwnE.slice R4_W41.out
                      clear ho hgr hb hrd
                      refine hK.out _ _ (HM9.out _ WD_W41.out) (fun _ => ?_)
                      clear hK K
                      try simp only [Act.put, List.setIfInBounds_toArray, List.set_cons_zero, List.set_cons_succ]
                      generalize (rs.take ps).length = q4 at *
                      refine wpAnyH_ready (rs := [6]) (by kernel_rfl) (by simp) ?_
                      refine AllReadyH.cons (oper_at (r := _) rfl) (fun K hK => ?_) AllReadyH.nil
                      obtain ⟨g6b, hg⟩ : ∃ g, g = W41.heap.size := ⟨_, rfl⟩
                      have lg6b : wz.heap.size ≤ g6b := by rw [hg]; exact WD_W41.out.size
                      have hx : (W41.alloc (.cells #[.slice a1 L1.length d1, .slice a2 L2.length d2] 27)).heap[g6b]? = some (.cells #[.slice a1 L1.length d1, .slice a2 L2.length d2] 27 (0, 0)) := by rw [hg]; exact heap_alloc_new _ _
                      have hb : Below W41.heap.size W41 (W41.alloc (.cells #[.slice a1 L1.length d1, .slice a2 L2.length d2] 27)) := (Below.refl _ _).alloc (Nat.le_refl _) _
                      have WD_W42 := Lib.hid (WD_W41.out.trans (hb.mono WD_W41.out.size))
                      have R4_W42 := Lib.hid (OwnE.below R4_W41.out hb (Nat.le_refl _))
                      clear WD_W41 R4_W41
                      have L6_W42 := Lib.hid hx
                      clear hx hb
                      go_simp
                      refine hK.out _ _ (HM9.out _ WD_W42.out) (fun _ => ?_)
                      clear hK K
                      try simp only [Act.put, List.setIfInBounds_toArray, List.set_cons_zero, List.set_cons_succ]
                      generalize W41.alloc (.cells #[.slice a1 L1.length d1, .slice a2 L2.length d2] 27) = W42 at *
                      try rw [← hg]
                      clear hg
                      refine wpAnyH_ready (rs := [7]) (by kernel_rfl) (by simp) ?_
                      refine AllReadyH.cons (oper_at (r := _) rfl) (fun K hK => ?_) AllReadyH.nil
                      refine step_append_E (E := ERp) (by rfl) _ _ 60 27 (by rfl) Tryd.underlying60 infoPart rfl (by decide) (by decide) wz.heap.size (.slice a5 q4 c5) (rs.take ps) (by rfl) R4_W42.out ⟨g6b, 0, none⟩ 1 ((a1, L1.length, d1), (a2, L2.length, d2)) (by rfl) (two_cellsP L6_W42.out rfl rfl) (by have := HRL.out; (simp <;> omega)) WD_W42.out.size ?_
                      intro v7 W43 ho hgr hb
                      have WD_W43 := Lib.hid (WD_W42.out.trans hb)
                      have R7_W43 := Lib.hid ho
                      clear ho hgr hb
                      refine hK.out _ _ (HM9.out _ WD_W43.out) (fun _ => ?_)
                      clear hK K
                      try simp only [Act.put, List.setIfInBounds_toArray, List.set_cons_zero, List.set_cons_succ]
                      refine wpAnyH_ready (rs := [11]) (by kernel_rfl) (by simp) ?_
                      refine AllReadyH.cons (oper_at (r := _) rfl) (fun K hK => ?_) AllReadyH.nil
                      have hrd := (show (cap = ps → Reads ERp W43 W43.heap.size (some ⟨g0, 0, none⟩) (rs.drop ps)) ∧ Reads ERp W43 W43.heap.size (some ⟨g0, ps * 2, none⟩) (rs.drop ps) from ⟨fun h => .inl (List.drop_eq_nil_iff.2 (by omega)), by have := reads_dp (Reads.up HRD.out WD_W43.out) ps; rw [Nat.zero_add] at this; exact this⟩)
                      refine step_append_many (E := ERp) (by rfl) _ _ 60 27 (by rfl) Tryd.underlying60 infoPart rfl (by decide) (by decide) wz.heap.size v7 (rs.take ps ++ [((a1, L1.length, d1), (a2, L2.length, d2))]) (by rfl) R7_W43.out _ _ _ W43.heap.size (rs.drop ps) (by rfl) (by have := HPL.out; simp <;> omega) (by first | exact hrd | exact hrd.1 | (split <;> first | exact hrd | exact hrd.1 (by omega) | exact hrd.2)) (by have := HRL.out; (simp <;> omega)) (by have := HRL.out; (simp <;> omega)) WD_W43.out.size ?_
                      intro v11 W44 ho hgr hb _
                      have WD_W44 := Lib.hid (WD_W43.out.trans hb)
                      have R11 := Lib.hid (OwnE.mono ho (HS6.out.1.size))
                      clear ho hgr hb hrd
                      refine hK.out _ _ (HM9.out _ WD_W44.out) (fun _ => ?_)
                      clear hK K
                      try simp only [Act.put, List.setIfInBounds_toArray, List.set_cons_zero, List.set_cons_succ]
                      refine wpAnyH_take (i := 12) (v := ?_) (oper_at (r := _) rfl) (by kernel_rfl) (by kernel_rfl) (by kernel_rfl) (fun _ _ _ h => h) (Or.inl ⟨by rfl, ?_⟩) (by assumption) ?_
                      rotate_left
                      · intro w hSw; try dsimp only at hSw
                        go_simp
                        try with_reducible rfl
                      try simp only [Act.put, List.setIfInBounds_toArray, List.set_cons_zero, List.set_cons_succ]
                      have R12 := Lib.hid (HINS.out _ (RowsP.below HR6.out WD_W44.out (Nat.le_refl _)) (OwnE.below H16.out WD_W44.out (Nat.le_refl _)) (OwnE.below H26.out WD_W44.out (Nat.le_refl _)))
                      have R13 := Lib.hid (HS6.out.up WD_W44.out)
                      refine wpAnyH_done (by kernel_rfl) ?_ _
                      refine NoPanic.normal ?_
                      go_wp2_with fail
                      go_roundw
                      case rel => exact ⟨k + 1, _, HLT.out, by go_num, R11.out, by rw [HI2.out]; exact R12.out, R13.out⟩
                      case measure => exact HM.out
                    · skip
                      obtain ⟨g6b, hg⟩ : ∃ g, g = W40.heap.size := ⟨_, rfl⟩
                      have lg6b : wz.heap.size ≤ g6b := by rw [hg]; exact WD_W40.out.size
                      have hx : (W40.alloc (.cells #[.slice a1 L1.length d1, .slice a2 L2.length d2] 27)).heap[g6b]? = some (.cells #[.slice a1 L1.length d1, .slice a2 L2.length d2] 27 (0, 0)) := by rw [hg]; exact heap_alloc_new _ _
                      have hb : Below W40.heap.size W40 (W40.alloc (.cells #[.slice a1 L1.length d1, .slice a2 L2.length d2] 27)) := (Below.refl _ _).alloc (Nat.le_refl _) _
                      have nL0L6 : g1b ≠ g6b := by have := heap_lt L0_W40.out; omega
                      have WD_W45 := Lib.hid (WD_W40.out.trans (hb.mono WD_W40.out.size))
                      have L0_W45 := Lib.hid (heap_up hb L0_W40.out)
                      clear WD_W40 L0_W40
                      have L6_W45 := Lib.hid hx
                      clear hx hb
                      go_simp
                      refine hK.out _ _ (HM9.out _ WD_W45.out) (fun _ => ?_)
                      clear hK K
                      try simp only [Act.put, List.setIfInBounds_toArray, List.set_cons_zero, List.set_cons_succ]
                      generalize W40.alloc (.cells #[.slice a1 L1.length d1, .slice a2 L2.length d2] 27) = W45 at *
                      try rw [← hg]
                      clear hg
                      refine wpAnyH_ready (rs := [4]) (by kernel_rfl) (by simp) ?_
                      refine AllReadyH.cons (oper_at (r := _) rfl) (fun K hK => ?_) AllReadyH.nil
                      have hrd := reads_tk (Reads.up HRD.out WD_W45.out) ps
                      refine step_append_many (E := ERp) (by rfl) _ _ 60 27 (by rfl) Tryd.underlying60 infoPart rfl (by decide) (by decide) wz.heap.size (.slice (some ⟨g1b, 0, none⟩) 0 0) [] (by rfl) (OwnE.empty L0_W45.out lg1b) _ _ _ W45.heap.size (rs.take ps) (by rfl) (by have := HPL.out; simp <;> omega) (by first | exact hrd | exact hrd.1 | (split <;> first | exact hrd | exact hrd.1 (by omega) | exact hrd.2)) (by have := HRL.out; (simp <;> omega)) (by have := HRL.out; (simp <;> omega)) WD_W45.out.size ?_
                      intro v4 W46 ho hgr hb _
                      have L6_W46 : Hid (W46.heap[g6b]? = _) := Lib.hid ((hgr.block g6b (heap_lt L6_W45.out) (fun e => by have e2 : g6b = g1b := Option.some.inj e; first | exact nL0L6 e2.symm | exact nL6L0 e2)).trans L6_W45.out)
                      have WD_W46 := Lib.hid (WD_W45.out.trans hb)
                      have R4_W46 := Lib.hid (ho.cast (List.nil_append (rs.take ps)))
                      obtain ⟨a5, c5, rfl⟩ := OwnE.slice R4_W46.out
                      clear ho hgr hb hrd
                      refine hK.out _ _ (HM9.out _ WD_W46.out) (fun _ => ?_)
                      clear hK K
                      try simp only [Act.put, List.setIfInBounds_toArray, List.set_cons_zero, List.set_cons_succ]
                      generalize (rs.take ps).length = q4 at *
                      refine wpAnyH_ready (rs := [7]) (by kernel_rfl) (by simp) ?_
                      refine AllReadyH.cons (oper_at (r := _) rfl) (fun K hK => ?_) AllReadyH.nil
                      refine step_append_E (E := ERp) (by rfl) _ _ 60 27 (by rfl) Tryd.underlying60 infoPart rfl (by decide) (by decide) wz.heap.size (.slice a5 q4 c5) (rs.take ps) (by rfl) R4_W46.out ⟨g6b, 0, none⟩ 1 ((a1, L1.length, d1), (a2, L2.length, d2)) (by rfl) (two_cellsP L6_W46.out rfl rfl) (by have := HRL.out; (simp <;> omega)) WD_W46.out.size ?_
                      intro v7 W47 ho hgr hb
                      have WD_W47 := Lib.hid (WD_W46.out.trans hb)
                      have R7_W47 := Lib.hid ho
                      clear ho hgr hb
                      refine hK.out _ _ (HM9.out _ WD_W47.out) (fun _ => ?_)
                      clear hK K
                      try simp only [Act.put, List.setIfInBounds_toArray, List.set_cons_zero, List.set_cons_succ]
                      refine wpAnyH_ready (rs := [11]) (by kernel_rfl) (by simp) ?_
                      refine AllReadyH.cons (oper_at (r := _) rfl) (fun K hK => ?_) AllReadyH.nil
                      have hrd := (show (cap = ps → Reads ERp W47 W47.heap.size (some ⟨g0, 0, none⟩) (rs.drop ps)) ∧ Reads ERp W47 W47.heap.size (some ⟨g0, ps * 2, none⟩) (rs.drop ps) from ⟨fun h => .inl (List.drop_eq_nil_iff.2 (by omega)), by have := reads_dp (Reads.up HRD.out WD_W47.out) ps; rw [Nat.zero_add] at this; exact this⟩)
                      refine step_append_many (E := ERp) (by rfl) _ _ 60 27 (by rfl) Tryd.underlying60 infoPart rfl (by decide) (by decide) wz.heap.size v7 (rs.take ps ++ [((a1, L1.length, d1), (a2, L2.length, d2))]) (by rfl) R7_W47.out _ _ _ W47.heap.size (rs.drop ps) (by rfl) (by have := HPL.out; simp <;> omega) (by first | exact hrd | exact hrd.1 | (split <;> first | exact hrd | exact hrd.1 (by omega) | exact hrd.2)) (by have := HRL.out; (simp <;> omega)) (by have := HRL.out; (simp <;> omega)) WD_W47.out.size ?_
                      intro v11 W48 ho hgr hb _
                      have WD_W48 := Lib.hid (WD_W47.out.trans hb)
                      have R11 := Lib.hid (OwnE.mono ho (HS6.out.1.size))
                      clear ho hgr hb hrd
                      refine hK.out _ _ (HM9.out _ WD_W48.out) (fun _ => ?_)
                      clear hK K
                      try simp only [Act.put, List.setIfInBounds_toArray, List.set_cons_zero, List.set_cons_succ]
                      refine wpAnyH_take (i := 12) (v := ?_) (oper_at (r := _) rfl) (by kernel_rfl) (by kernel_rfl) (by kernel_rfl) (fun _ _ _ h => h) (Or.inl ⟨by rfl, ?_⟩) (by assumption) ?_
                      rotate_left
                      · intro w hSw; try dsimp only at hSw
                        go_simp
                        try with_reducible rfl
                      try simp only [Act.put, List.setIfInBounds_toArray, List.set_cons_zero, List.set_cons_succ]
                      have R12 := Lib.hid (HINS.out _ (RowsP.below HR6.out WD_W48.out (Nat.le_refl _)) (OwnE.below H16.out WD_W48.out (Nat.le_refl _)) (OwnE.below H26.out WD_W48.out (Nat.le_refl _)))
                      have R13 := Lib.hid (HS6.out.up WD_W48.out)
                      refine wpAnyH_done (by kernel_rfl) ?_ _
                      refine NoPanic.normal ?_
                      go_wp2_with fail
                      go_roundw
                      case rel => exact ⟨k + 1, _, HLT.out, by go_num, R11.out, by rw [HI2.out]; exact R12.out, R13.out⟩
                      case measure => exact HM.out
                  · skip
                    obtain ⟨g6b, hg⟩ : ∃ g, g = wz.heap.size := ⟨_, rfl⟩
                    have lg6b : wz.heap.size ≤ g6b := by rw [hg]; exact WD0.out.size
                    have hx : (wz.alloc (.cells #[.slice a1 L1.length d1, .slice a2 L2.length d2] 27)).heap[g6b]? = some (.cells #[.slice a1 L1.length d1, .slice a2 L2.length d2] 27 (0, 0)) := by rw [hg]; exact heap_alloc_new _ _
                    have hb : Below wz.heap.size wz (wz.alloc (.cells #[.slice a1 L1.length d1, .slice a2 L2.length d2] 27)) := (Below.refl _ _).alloc (Nat.le_refl _) _
                    have WD_W49 := Lib.hid (WD0.out.trans (hb.mono WD0.out.size))
                    clear WD0
                    have L6_W49 := Lib.hid hx
                    clear hx hb
                    go_simp
                    refine hK.out _ _ (HM9.out _ WD_W49.out) (fun _ => ?_)
                    clear hK K
                    try simp only [Act.put, List.setIfInBounds_toArray, List.set_cons_zero, List.set_cons_succ]
                    generalize wz.alloc (.cells #[.slice a1 L1.length d1, .slice a2 L2.length d2] 27) = W49 at *
                    try rw [← hg]
                    clear hg
                    refine wpAnyH_ready (rs := [0]) (by kernel_rfl) (by simp) ?_
                    refine AllReadyH.cons (oper_at (r := _) rfl) (fun K hK => ?_) AllReadyH.nil
                    obtain ⟨g1b, hg⟩ : ∃ g, g = W49.heap.size := ⟨_, rfl⟩
                    have lg1b : wz.heap.size ≤ g1b := by rw [hg]; exact WD_W49.out.size
                    have hx : (W49.alloc (.cells #[] 27)).heap[g1b]? = some (.cells #[] 27 (0, 0)) := by rw [hg]; exact heap_alloc_new _ _
                    have hb : Below W49.heap.size W49 (W49.alloc (.cells #[] 27)) := (Below.refl _ _).alloc (Nat.le_refl _) _
                    have nL6L0 : g6b ≠ g1b := by have := heap_lt L6_W49.out; omega
                    have WD_W50 := Lib.hid (WD_W49.out.trans (hb.mono WD_W49.out.size))
                    have L6_W50 := Lib.hid (heap_up hb L6_W49.out)
                    clear WD_W49 L6_W49
                    have L0_W50 := Lib.hid hx
                    clear hx hb
                    go_simp
                    refine hK.out _ _ (HM9.out _ WD_W50.out) (fun _ => ?_)
                    clear hK K
                    try simp only [Act.put, List.setIfInBounds_toArray, List.set_cons_zero, List.set_cons_succ]
                    generalize W49.alloc (.cells #[] 27) = W50 at *
                    try rw [← hg]
                    clear hg
                    refine wpAnyH_ready (rs := [4]) (by kernel_rfl) (by simp) ?_
                    refine AllReadyH.cons (oper_at (r := _) rfl) (fun K hK => ?_) AllReadyH.nil
                    have hrd := reads_tk (Reads.up HRD.out WD_W50.out) ps
                    refine step_append_many (E := ERp) (by rfl) _ _ 60 27 (by rfl) Tryd.underlying60 infoPart rfl (by decide) (by decide) wz.heap.size (.slice (some ⟨g1b, 0, none⟩) 0 0) [] (by rfl) (OwnE.empty L0_W50.out lg1b) _ _ _ W50.heap.size (rs.take ps) (by rfl) (by have := HPL.out; simp <;> omega) (by first | exact hrd | exact hrd.1 | (split <;> first | exact hrd | exact hrd.1 (by omega) | exact hrd.2)) (by have := HRL.out; (simp <;> omega)) (by have := HRL.out; (simp <;> omega)) WD_W50.out.size ?_
                    intro v4 W51 ho hgr hb _
                    have L6_W51 : Hid (W51.heap[g6b]? = _) := Lib.hid ((hgr.block g6b (heap_lt L6_W50.out) (fun e => by have e2 : g6b = g1b := Option.some.inj e; first | exact nL0L6 e2.symm | exact nL6L0 e2)).trans L6_W50.out)
                    have WD_W51 := Lib.hid (WD_W50.out.trans hb)
                    have R4_W51 := Lib.hid (ho.cast (List.nil_append (rs.take ps)))
                    obtain ⟨a5, c5, rfl⟩ := OwnE.slice R4_W51.out
                    clear ho hgr hb hrd
                    refine hK.out _ _ (HM9.out _ WD_W51.out) (fun _ => ?_)
                    clear hK K
                    try simp only [Act.put, List.setIfInBounds_toArray, List.set_cons_zero, List.set_cons_succ]
                    generalize (rs.take ps).length = q4 at *
                    refine wpAnyH_ready (rs := [7]) (by kernel_rfl) (by simp) ?_
                    refine AllReadyH.cons (oper_at (r := _) rfl) (fun K hK => ?_) AllReadyH.nil
                    refine step_append_E (E := ERp) (by rfl) _ _ 60 27 (by rfl) Tryd.underlying60 infoPart rfl (by decide) (by decide) wz.heap.size (.slice a5 q4 c5) (rs.take ps) (by rfl) R4_W51.out ⟨g6b, 0, none⟩ 1 ((a1, L1.length, d1), (a2, L2.length, d2)) (by rfl) (two_cellsP L6_W51.out rfl rfl) (by have := HRL.out; (simp <;> omega)) WD_W51.out.size ?_
                    intro v7 W52 ho hgr hb
                    have WD_W52 := Lib.hid (WD_W51.out.trans hb)
                    have R7_W52 := Lib.hid ho
                    clear ho hgr hb
                    refine hK.out _ _ (HM9.out _ WD_W52.out) (fun _ => ?_)
                    clear hK K
                    try simp only [Act.put, List.setIfInBounds_toArray, List.set_cons_zero, List.set_cons_succ]
                    refine wpAnyH_ready (rs := [11]) (by kernel_rfl) (by simp) ?_
                    refine AllReadyH.cons (oper_at (r := _) rfl) (fun K hK => ?_) AllReadyH.nil
                    have hrd := (show (cap = ps → Reads ERp W52 W52.heap.size (some ⟨g0, 0, none⟩) (rs.drop ps)) ∧ Reads ERp W52 W52.heap.size (some ⟨g0, ps * 2, none⟩) (rs.drop ps) from ⟨fun h => .inl (List.drop_eq_nil_iff.2 (by omega)), by have := reads_dp (Reads.up HRD.out WD_W52.out) ps; rw [Nat.zero_add] at this; exact this⟩)
                    refine step_append_many (E := ERp) (by rfl) _ _ 60 27 (by rfl) Tryd.underlying60 infoPart rfl (by decide) (by decide) wz.heap.size v7 (rs.take ps ++ [((a1, L1.length, d1), (a2, L2.length, d2))]) (by rfl) R7_W52.out _ _ _ W52.heap.size (rs.drop ps) (by rfl) (by have := HPL.out; simp <;> omega) (by first | exact hrd | exact hrd.1 | (split <;> first | exact hrd | exact hrd.1 (by omega) | exact hrd.2)) (by have := HRL.out; (simp <;> omega)) (by have := HRL.out; (simp <;> omega)) WD_W52.out.size ?_
                    intro v11 W53 ho hgr hb _
                    have WD_W53 := Lib.hid (WD_W52.out.trans hb)
                    have R11 := Lib.hid (OwnE.mono ho (HS6.out.1.size))
                    clear ho hgr hb hrd
                    refine hK.out _ _ (HM9.out _ WD_W53.out) (fun _ => ?_)
                    clear hK K
                    try simp only [Act.put, List.setIfInBounds_toArray, List.set_cons_zero, List.set_cons_succ]
                    refine wpAnyH_take (i := 12) (v := ?_) (oper_at (r := _) rfl) (by kernel_rfl) (by kernel_rfl) (by kernel_rfl) (fun _ _ _ h => h) (Or.inl ⟨by rfl, ?_⟩) (by assumption) ?_
                    rotate_left
                    · intro w hSw; try dsimp only at hSw
                      go_simp
                      try with_reducible rfl
                    try simp only [Act.put, List.setIfInBounds_toArray, List.set_cons_zero, List.set_cons_succ]
                    have R12 := Lib.hid (HINS.out _ (RowsP.below HR6.out WD_W53.out (Nat.le_refl _)) (OwnE.below H16.out WD_W53.out (Nat.le_refl _)) (OwnE.below H26.out WD_W53.out (Nat.le_refl _)))
                    have R13 := Lib.hid (HS6.out.up WD_W53.out)
                    refine wpAnyH_done (by kernel_rfl) ?_ _
                    refine NoPanic.normal ?_
                    go_wp2_with fail
                    go_roundw
                    case rel => exact ⟨k + 1, _, HLT.out, by go_num, R11.out, by rw [HI2.out]; exact R12.out, R13.out⟩
                    case measure => exact HM.out
      · have e : k = N1 := by omega
        subst e
        have HPP := Lib.hid (isP_rows HO.out HRW.out)
        have HB9 := Lib.hid HS.out.1
        obtain ⟨ao, cap, rfl⟩ := OwnE.slice HO.out
        go_wp2_with fail
        go_ret2
        rw [HRR.out, HEE.out]
        unfold AllPo
        exact ⟨⟨_, rfl, HPP.out⟩, HB9.out⟩

end Go.Proofs.YthnhacncnhknnaaDoor

/-
  Graphs: SameParts of equal lists.
-/
namespace Go.Proofs.YthnhacncnhknnaaDoor
open Go.RowKit

abbrev SP4 (b o b' o' : Nat) (u0 u1 v0 v1 : Value) (wr W : World) : Prop := (W.cell? ⟨b, o, none⟩ = some u0 ∧ W.cell? ⟨b, o + 1, none⟩ = some u1 ∧ W.cell? ⟨b', o', none⟩ = some v0 ∧ W.cell? ⟨b', o' + 1, none⟩ = some v1) ∧ Below wr.heap.size wr W
theorem SP4.mk {b o b' o' : Nat} {u0 u1 v0 v1 : Value} {wr W : World} (hb : b < wr.heap.size) (hb' : b' < wr.heap.size) (k0 : wr.cell? ⟨b, o, none⟩ = some u0) (k1 : wr.cell? ⟨b, o + 1, none⟩ = some u1) (k2 : wr.cell? ⟨b', o', none⟩ = some v0) (k3 : wr.cell? ⟨b', o' + 1, none⟩ = some v1) (h : Below wr.heap.size wr W) : SP4 b o b' o' u0 u1 v0 v1 wr W :=
  ⟨⟨(h.cell (p := ⟨b, o, none⟩) hb).trans k0, (h.cell (p := ⟨b, o + 1, none⟩) hb).trans k1, (h.cell (p := ⟨b', o', none⟩) hb').trans k2, (h.cell (p := ⟨b', o' + 1, none⟩) hb').trans k3⟩, h⟩

set_option maxRecDepth 100000 in
set_option maxHeartbeats 4000000 in
theorem sameParts_any (ps : List Mo) (A A' : Option Addr) (c c' : Nat) (w : World) (hl : ps.length ≤ 100) (hs : ∀ x ∈ ps, x.ns.length ≤ 1000 ∧ x.es.length ≤ 1000) (hA : Pts w w.heap.size A ps) (hB : Pts w w.heap.size A' ps) :
    Calls Tryd.prog 39 #[.slice A ps.length c, .slice A' ps.length c'] w fun e w' => e = .returned (.bool true) ∧ Below w.heap.size w w' := by
  have HA := Lib.hid hA
  have HB := Lib.hid hB
  have HS := Lib.hid hs
  clear hA hB hs
  go_enter Tryd.func39, Tryd.ntmps39
  have t1 : ((ps.length : Int) != (ps.length : Int)) = false := by simp
  go_wp2_with fail
  go_loopw [5] (fun vi wr => ∃ k : Nat, k ≤ ps.length ∧ vi = .int .i64 k ∧ Below w.heap.size w wr) (fun vi _ => ps.length - (intOf vi).toNat)
  case atStart => exact ⟨0, Nat.zero_le _, rfl, Below.refl _ _⟩
  case round =>
    obtain ⟨k, hk, rfl, hbel⟩ := hrel
    have HBL := Lib.hid hbel
    by_cases hlt : k < ps.length
    · obtain ⟨b, off, cs, rfl, hb, hr, hc⟩ := DReads.at (HA.out.up hbel) hlt
      obtain ⟨b', off', cs', rfl, hb', hr', hc'⟩ := DReads.at (HB.out.up hbel) hlt
      obtain ⟨m1, m2⟩ := HS.out _ (List.getElem_mem hlt)
      obtain ⟨A1, c1, A2, c2, rfl, r1, r2⟩ := hr
      obtain ⟨B1, d1, B2, d2, rfl, q1, q2⟩ := hr'
      have k0 := hc 0 _ rfl
      have k1 := hc 1 _ rfl
      have k2 := hc' 0 _ rfl
      have k3 := hc' 1 _ rfl
      generalize ps[k] = x at *
      simp only [show DPart.size = 2 from rfl, Nat.add_zero] at k0 k1 k2 k3
      have HM := Lib.hid (fun W (h : Below wr.heap.size wr W) => SP4.mk hb hb' k0 k1 k2 k3 h)
      have h1 := fun W (h : Below wr.heap.size wr W) => sameInts_any x.ns x.ns A1 B1 wr.heap.size wr.heap.size c1 d1 W (by unfold maxLen; omega) (r1.below h) (q1.below h)
      have h2 := fun W (h : Below wr.heap.size wr W) => sameInts_any x.es x.es A2 B2 wr.heap.size wr.heap.size c2 d2 W (by unfold maxLen; omega) (r2.below h) (q2.below h)
      rw [decide_eq_true (p := x.ns = x.ns) rfl] at h1
      rw [decide_eq_true (p := x.es = x.es) rfl] at h2
      have H1 := Lib.hid h1
      have H2 := Lib.hid h2
      have HSd := Lib.hid (HM.out _ (below_d wr))
      have hk0 : (0 : Int) ≤ (k : Int) := by omega
      have hk1 : (k : Int) < (ps.length : Int) := by omega
      have hk2 : ((k : Int)).toNat = k := by omega
      clear h1 h2 hc hc' r1 r2 q1 q2 k0 k1 k2 k3 m1 m2
      go_wp2_with fail
      go_region_held3 (SP4 b (off + k * 2) b' (off' + k * 2) (.slice A1 x.ns.length c1) (.slice A2 x.es.length c2) (.slice B1 x.ns.length d1) (.slice B2 x.es.length d2) wr)
        (first | assumption | exact HSd.out)
        ((first
          | ((with_reducible refine (H1.out _ (by first | exact HSd.out.2 | (apply And.right; assumption))).mono ?_); rintro e w3 ⟨rfl, hb3⟩; have hq3 := HM.out w3 ((show Below wr.heap.size wr _ from by first | exact HSd.out.2 | (apply And.right; assumption)).trans (hb3.mono (by first | exact HSd.out.2.size | exact (show SP4 _ _ _ _ _ _ _ _ wr _ from by assumption).2.size))))
          | ((with_reducible refine (H2.out _ (by first | exact HSd.out.2 | (apply And.right; assumption))).mono ?_); rintro e w4 ⟨rfl, hb4⟩; have hq4 := HM.out w4 (hq3.2.trans (hb4.mono hq3.2.size)))))
      have HBN := Lib.hid (HBL.out.trans (hq4.2.mono HBL.out.size))
      clear hq3 hq4 hb3 hb4
      go_wp2_with fail
      go_roundw
      case rel => exact ⟨k + 1, by omega, by go_num, HBN.out⟩
      case measure => simp [intOf]; omega
    · have e : k = ps.length := by omega
      subst e
      go_wp2_with fail
      go_ret
      exact ⟨rfl, HBL.out⟩

end Go.Proofs.YthnhacncnhknnaaDoor

/-
  SubgraphAll. Printed by mkl10.py.
-/
namespace Go.Proofs.YthnhacncnhknnaaDoor
open Go.RowKit Go.Shelf

theorem getD_in {l : List Mo} {i : Nat} (h : i < l.length) : l.getD i default = l[i] := by
  rw [List.getD_eq_getElem?_getD, List.getElem?_eq_getElem h, Option.getD_some]
theorem allPR_of {g : Gr} (h : pAllE g = 0) : validE g = 0 ∧ g.ns.length + g.es.length ≤ 6 ∧ pAllR g = pAll g := by
  have h0 := h
  unfold pAllE at h
  by_cases hv : validE g = 0
  · rw [if_neg (by omega)] at h
    by_cases h6 : 6 < g.ns.length + g.es.length
    · rw [if_pos h6] at h; cases h
    · exact ⟨hv, by omega, if_pos h0⟩
  · rw [if_pos hv] at h; exact absurd h hv
theorem allPR_not {g : Gr} (h : pAllE g ≠ 0) : pAllR g = [] := if_neg h
theorem allPR_mem {g : Gr} {p : Mo} (h : p ∈ pAllR g) : partE g p = 0 ∧ (p.ns.length ≤ 1000 ∧ p.es.length ≤ 1000) ∧ (∀ x ∈ p.ns, 0 ≤ x ∧ x < 1000) ∧ (∀ x ∈ p.es, 0 ≤ x ∧ x < 1000) := by
  by_cases e : pAllE g = 0
  · obtain ⟨hv, h6, e2⟩ := allPR_of e
    rw [e2] at h
    have hp := pAll_mem.1 h
    refine ⟨part_zero.2 ⟨hv, hp⟩, part_len hv hp, fun x hx => ?_, fun x hx => ?_⟩
    · have := hp.rn x hx; omega
    · have := hp.re x hx; omega
  · rw [allPR_not e] at h; cases h
theorem allPR_cnt (g : Gr) : (pAllR g).length ≤ 64 := by
  by_cases e : pAllE g = 0
  · obtain ⟨_, h6, e2⟩ := allPR_of e
    rw [e2]
    exact Nat.le_trans (pAllTo_len g _) (pow_six' h6).2
  · rw [allPR_not e]; simp
theorem allPR_asc (g : Gr) {k : Nat} (h : k + 1 < (pAllR g).length) : cmpP ((pAllR g).getD k default) ((pAllR g).getD (k + 1) default) < 0 := by
  have hs : SrtP (pAllR g) := by
    by_cases e : pAllE g = 0
    · rw [(allPR_of e).2.2]; exact pAll_srt g
    · rw [allPR_not e]; exact List.Pairwise.nil
  have h1 : k < (pAllR g).length := by omega
  rw [getD_in h1, getD_in h]
  exact List.pairwise_iff_getElem.1 hs k (k + 1) h1 h (by omega)

set_option maxRecDepth 100000 in
set_option maxHeartbeats 4000000 in
theorem lawAll7 (hC : CloseC 12) (hB : BndC 35) (hA : AllC 37) (hV : ValidC 40) (g : Gr) (An : Option Addr) (cn : Nat) (Ae : Option Addr) (ce : Nat) (w : World) (hT : TabV w) (hg : GrAt w An cn Ae ce g) :
    Calls Tryd.prog 9 #[gval An g.ns.length cn Ae g.es.length ce] w fun e w' => e = .returned (.bool true) ∧ Below w.heap.size w w' := by
  have HAW := Lib.hid (fun (u : World) (hu : Below w.heap.size w u) => awake7 hC hB hA u (hT.up hu))
  have HSM := Lib.hid (fun (u : World) (hu : Below w.heap.size w u) => small7_any g [] An cn Ae ce none 0 u (by simp) (hg.up hu) (by simp) (.inl rfl))
  have HCG : Hid (fewB g = true → ∀ u : World, Below w.heap.size w u → Calls Tryd.prog 13 #[gval An g.ns.length cn Ae g.es.length ce] u fun e w' => (∃ Xn xn Xe xe, e = .returned (gval Xn g.ns.length xn Xe g.es.length xe) ∧ GrAt w' Xn xn Xe xe g) ∧ Below u.heap.size u w') := Lib.hid fun hf u hu => copyG7 g An cn Ae ce u (by have := few_iff.1 hf; omega) (hg.up hu)
  have HAP := Lib.hid (fun Xn xn Xe xe (u : World) (hu : Below w.heap.size w u) (hx : GrAt u Xn xn Xe xe g) => hA g Xn xn Xe xe u (hT.up hu) hx)
  have HAR := Lib.hid (fun (u : World) (hu : Below w.heap.size w u) => all7_any g An cn Ae ce u (hT.up hu) (hg.up hu))
  have HVA := Lib.hid (fun (p : Mo) X x Y y (u : World) (hu : Below w.heap.size w u) (hp : PtAt u X Y p) => hV g p An cn Ae ce X x Y y u (hg.up hu) hp)
  have HMEM := Lib.hid (fun p (h : p ∈ pAllR g) => allPR_mem h)
  have HCNT := Lib.hid (allPR_cnt g)
  have HASC := Lib.hid (fun k (h : k + 1 < (pAllR g).length) => allPR_asc g h)
  have hS0 : SR w [(.slice An g.ns.length cn, .slice Ae g.es.length ce, 25)] (w.alloc (.cells #[.slice An g.ns.length cn, .slice Ae g.es.length ce] 25)) := SR.push (SR.nil w) rfl _ _ _
  have HS0 := Lib.hid hS0
  clear hS0 hC hB hA hV hT hg
  simp only [List.length_nil, List.all_nil, Bool.and_true] at HSM
  generalize fewB g = s1 at *
  generalize pAllR g = L at *
  generalize pAllE g = E at *
  go_enter Tryd.func9, Tryd.ntmps9
  go_wp2_with fail
  refine (HAW.out _ HS0.out.1).mono ?_
  rintro e w1 ⟨rfl, hb⟩
  have HS1 := Lib.hid (HS0.out.up hb)
  clear hb HS0
  obtain ⟨c0, c1⟩ := HS1.out.cell (i := 0) rfl
  simp only [Nat.add_zero] at c0 c1
  go_wp2_with fail
  refine (HSM.out _ HS1.out.1).mono ?_
  rintro e w2 ⟨rfl, hb⟩
  have HS2 := Lib.hid (HS1.out.up hb)
  clear hb HS1 HSM c0 c1
  cases s1
  case false =>
    go_wp2_with fail
    refine (HAW.out _ HS2.out.1).mono ?_
    rintro e w9 ⟨rfl, hb9⟩
    go_wp2_with fail
    go_ret
    exact ⟨rfl, HS2.out.1.trans (hb9.mono HS2.out.1.size)⟩
  have HCG9 := Lib.hid (HCG.out rfl)
  clear HCG HAW
  obtain ⟨c0, c1⟩ := HS2.out.cell (i := 0) rfl
  simp only [Nat.add_zero] at c0 c1
  go_wp2_with fail
  refine (HCG9.out _ HS2.out.1).mono ?_
  rintro e w3 ⟨⟨Xn, xn, Xe, xe, rfl, hx⟩, hb⟩
  have HX := Lib.hid hx
  have HS3 := Lib.hid (HS2.out.up hb)
  clear hx hb HS2 c0 c1
  go_wp2_with fail
  refine (HAP.out Xn xn Xe xe _ HS3.out.1 HX.out).mono ?_
  rintro e w4 ⟨⟨v, rfl, AL, cL, rfl, hpt⟩, hb⟩
  have HPA := Lib.hid hpt
  have HS4 := Lib.hid (HS3.out.up hb)
  clear hpt hb HS3 HX HCG9 HAP
  obtain ⟨c0, c1⟩ := HS4.out.cell (i := 0) rfl
  simp only [Nat.add_zero] at c0 c1
  go_wp2_with fail
  refine (HAR.out _ HS4.out.1).mono ?_
  rintro e w5 ⟨⟨v, rfl, BL, dL, rfl, hpt⟩, hb⟩
  have HPB := Lib.hid hpt
  have HPL := Lib.hid (DReads.up HPA.out hb)
  have HS5 := Lib.hid (HS4.out.up hb)
  clear hpt hb HS4 HPA HAR c0 c1
  have HSP := Lib.hid (sameParts_any L AL BL cL dL w5 (by have := HCNT.out; omega) (fun x hx => (HMEM.out x hx).2.1) HPL.out HPB.out)
  go_wp2_with fail
  refine HSP.out.mono ?_
  rintro e w6 ⟨rfl, hb⟩
  have HPL6 := Lib.hid (DReads.up HPL.out hb)
  have HS6 := Lib.hid (HS5.out.up hb)
  clear hb HS5 HPB HPL HSP
  have hL := HCNT.out
  go_wp2_with fail
  go_loopw [39] (fun v wr => ∃ k : Nat, k ≤ L.length ∧ v = .int .i64 (k : Int) ∧ Below w6.heap.size w6 wr) (fun v _ => L.length - (intOf v).toNat)
  case atStart => exact ⟨0, Nat.zero_le _, rfl, Below.refl _ _⟩
  case round =>
    obtain ⟨k, hk, rfl, hbel⟩ := hrel
    have HBL := Lib.hid hbel
    have HSR := Lib.hid (HS6.out.up hbel)
    have HPR := Lib.hid (DReads.up HPL6.out hbel)
    clear hbel
    by_cases hlt : k < L.length
    · obtain ⟨b, off, cs, rfl, hb, hr, hc⟩ := DReads.at HPR.out hlt
      have HM := Lib.hid (HMEM.out _ (List.getElem_mem hlt))
      have HAK : Hid (∀ k1, k = k1 + 1 → ∀ (h : k1 < L.length), cmpP L[k1] L[k] < 0) := Lib.hid fun k1 e h => by
        subst e
        have h2 := HASC.out k1 hlt
        rw [getD_in h, getD_in hlt] at h2
        exact h2
      obtain ⟨A1, a1, A2, a2, rfl, r1, r2⟩ := hr
      have k0 := hc 0 _ rfl
      have k1' := hc 1 _ rfl
      generalize L[k] = c at *
      simp only [show DPart.size = 2 from rfl, Nat.add_zero] at k0 k1'
      have PC := Lib.hid (show PtAt wr A1 A2 c from ⟨r1, r2, HM.out.2.1.1, HM.out.2.1.2⟩)
      have i0 : (0 : Int) ≤ (k : Int) := by omega
      have i1 : (k : Int) < (L.length : Int) := by omega
      have i2 : ((k : Int)).toNat = k := by omega
      have HLT := Lib.hid hlt
      have HMS : Hid (L.length - ((k : Int) + 1).toNat < L.length - ((k : Int)).toNat) := Lib.hid (by omega)
      clear hc r1 r2 hb
      go_upto_region 10 with fail
      clear k0 k1'
      have hb : Below wr.heap.size wr (wr.alloc (.cells #[.slice A1 c.ns.length a1, .slice A2 c.es.length a2] 27)) := (Below.refl _ _).alloc (Nat.le_refl _) _
      have HX : Hid (BX wr.heap.size (.slice A1 c.ns.length a1) (.slice A2 c.es.length a2) 27 (wr.alloc (.cells #[.slice A1 c.ns.length a1, .slice A2 c.es.length a2] 27))) := Lib.hid (heap_alloc_new _ _)
      have HB7 := Lib.hid (HBL.out.trans (hb.mono HBL.out.size))
      have HS7 := Lib.hid (HSR.out.up hb)
      have HP7 := Lib.hid (DReads.up HPR.out hb)
      have PC7 := Lib.hid (PC.out.up hb)
      clear hb HBL HSR HPR PC
      generalize wr.alloc (.cells #[.slice A1 c.ns.length a1, .slice A2 c.es.length a2] 27) = w7 at *
      generalize wr.heap.size = gx at *
      have HVC := Lib.hid (fun (u : World) (hu : Below w7.heap.size w7 u) => HVA.out c A1 a1 A2 a2 u (HS7.out.up hu).1 (PC7.out.up hu))
      rw [HM.out.1] at HVC
      obtain ⟨c0, c1⟩ := HS7.out.cell (i := 0) rfl
      simp only [Nat.add_zero] at c0 c1
      obtain ⟨x0, x1⟩ := HX.out.cells
      have HVD := Lib.hid (below_d w7)
      have WD0 := Lib.hid (Below.refl w7.drew.heap.size w7.drew)
      cases k with
      | zero =>
        have HM2 : Hid (∀ u, Below w7.drew.heap.size w7.drew u → (fun u : World => (u.cell? ⟨w.heap.size, 0, none⟩ = some (.slice An g.ns.length cn) ∧ u.cell? ⟨w.heap.size, 1, none⟩ = some (.slice Ae g.es.length ce) ∧ u.cell? ⟨gx, 0, none⟩ = some (.slice A1 c.ns.length a1) ∧ u.cell? ⟨gx, 1, none⟩ = some (.slice A2 c.es.length a2))) u) := Lib.hid fun u hb => ⟨cell_up hb c0, cell_up hb c1, cell_up hb x0, cell_up hb x1⟩
        clear c0 c1 x0 x1
        refine wp_region_noPanic ?_
        refine wp_region_held_drew (S := (fun u : World => (u.cell? ⟨w.heap.size, 0, none⟩ = some (.slice An g.ns.length cn) ∧ u.cell? ⟨w.heap.size, 1, none⟩ = some (.slice Ae g.es.length ce) ∧ u.cell? ⟨gx, 0, none⟩ = some (.slice A1 c.ns.length a1) ∧ u.cell? ⟨gx, 1, none⟩ = some (.slice A2 c.es.length a2)))) (by kernel_rfl) (HM2.out _ WD0.out) (fun hHeld => ?_)
        generalize w7.drew = wd at *
        refine wpAnyH_take (i := 0) (v := ?_) (oper_at (r := _) rfl) (by kernel_rfl) (by kernel_rfl) (by kernel_rfl) (fun _ _ _ h => h) (Or.inl ⟨by rfl, ?_⟩) (by assumption) ?_
        rotate_left
        · intro w hSw; try dsimp only at hSw
          go_simp
          try with_reducible rfl
        try simp only [Act.put, List.setIfInBounds_toArray, List.set_cons_zero, List.set_cons_succ]
        refine wpAnyH_take (i := 1) (v := ?_) (oper_at (r := _) rfl) (by kernel_rfl) (by kernel_rfl) (by kernel_rfl) (fun _ _ _ h => h) (Or.inl ⟨by rfl, ?_⟩) (by assumption) ?_
        rotate_left
        · intro w hSw; try dsimp only at hSw
          go_simp
          try with_reducible rfl
        try simp only [Act.put, List.setIfInBounds_toArray, List.set_cons_zero, List.set_cons_succ]
        refine wpAnyH_ready (rs := [2]) (by kernel_rfl) (by simp) ?_
        refine AllReadyH.cons (oper_at (r := _) rfl) (fun K hK => ?_) AllReadyH.nil
        go_simp
        refine (HVC.out _ HVD.out).mono ?_
        rintro e w8 ⟨rfl, hb⟩
        have HB8 := Lib.hid hb
        clear hb
        go_wp2_with fail
        refine hK.out _ _ (HM2.out _ HB8.out) (fun _ => ?_)
        clear hK K
        try simp only [Act.put, List.setIfInBounds_toArray, List.set_cons_zero, List.set_cons_succ]
        refine wpAnyH_take (i := 3) (v := ?_) (oper_at (r := _) rfl) (by kernel_rfl) (by kernel_rfl) (by kernel_rfl) (fun _ _ _ h => h) (Or.inl ⟨by rfl, ?_⟩) (by assumption) ?_
        rotate_left
        · intro w hSw; try dsimp only at hSw
          go_simp
          try with_reducible rfl
        try simp only [Act.put, List.setIfInBounds_toArray, List.set_cons_zero, List.set_cons_succ]
        refine wpAnyH_take (i := 4) (v := ?_) (oper_at (r := _) rfl) (by kernel_rfl) (by kernel_rfl) (by kernel_rfl) (fun _ _ _ h => h) (Or.inl ⟨by rfl, ?_⟩) (by assumption) ?_
        rotate_left
        · intro w hSw; try dsimp only at hSw
          go_simp
          try with_reducible rfl
        try simp only [Act.put, List.setIfInBounds_toArray, List.set_cons_zero, List.set_cons_succ]
        refine wpAnyH_take (i := 5) (v := ?_) (oper_at (r := _) rfl) (by kernel_rfl) (by kernel_rfl) (by kernel_rfl) (fun _ _ _ h => h) (Or.inl ⟨by rfl, ?_⟩) (by assumption) ?_
        rotate_left
        · intro w hSw; try dsimp only at hSw
          go_simp
          try with_reducible rfl
        try simp only [Act.put, List.setIfInBounds_toArray, List.set_cons_zero, List.set_cons_succ]
        refine wpAnyH_take (i := 6) (v := ?_) (oper_at (r := _) rfl) (by kernel_rfl) (by kernel_rfl) (by kernel_rfl) (fun _ _ _ h => h) (Or.inl ⟨by rfl, ?_⟩) (by assumption) ?_
        rotate_left
        · intro w hSw; try dsimp only at hSw
          go_simp
          try with_reducible rfl
        try simp only [Act.put, List.setIfInBounds_toArray, List.set_cons_zero, List.set_cons_succ]
        refine wpAnyH_take (i := 7) (v := ?_) (oper_at (r := _) rfl) (by kernel_rfl) (by kernel_rfl) (by kernel_rfl) (fun _ _ _ h => h) (Or.inl ⟨by rfl, ?_⟩) (by assumption) ?_
        rotate_left
        · intro w hSw; try dsimp only at hSw
          go_simp
          try with_reducible rfl
        try simp only [Act.put, List.setIfInBounds_toArray, List.set_cons_zero, List.set_cons_succ]
        refine wpAnyH_take (i := 8) (v := undef) (oper_at (r := _) rfl) (by kernel_rfl) (by kernel_rfl) (by kernel_rfl) (fun _ _ _ h => h) (Or.inr ⟨by rfl, rfl⟩) (by assumption) ?_
        try simp only [Act.put, List.setIfInBounds_toArray, List.set_cons_zero, List.set_cons_succ]
        refine wpAnyH_take (i := 9) (v := undef) (oper_at (r := _) rfl) (by kernel_rfl) (by kernel_rfl) (by kernel_rfl) (fun _ _ _ h => h) (Or.inr ⟨by rfl, rfl⟩) (by assumption) ?_
        try simp only [Act.put, List.setIfInBounds_toArray, List.set_cons_zero, List.set_cons_succ]
        refine wpAnyH_take (i := 10) (v := undef) (oper_at (r := _) rfl) (by kernel_rfl) (by kernel_rfl) (by kernel_rfl) (fun _ _ _ h => h) (Or.inr ⟨by rfl, rfl⟩) (by assumption) ?_
        try simp only [Act.put, List.setIfInBounds_toArray, List.set_cons_zero, List.set_cons_succ]
        refine wpAnyH_take (i := 11) (v := undef) (oper_at (r := _) rfl) (by kernel_rfl) (by kernel_rfl) (by kernel_rfl) (fun _ _ _ h => h) (Or.inr ⟨by rfl, rfl⟩) (by assumption) ?_
        try simp only [Act.put, List.setIfInBounds_toArray, List.set_cons_zero, List.set_cons_succ]
        refine wpAnyH_take (i := 12) (v := undef) (oper_at (r := _) rfl) (by kernel_rfl) (by kernel_rfl) (by kernel_rfl) (fun _ _ _ h => h) (Or.inr ⟨by rfl, rfl⟩) (by assumption) ?_
        try simp only [Act.put, List.setIfInBounds_toArray, List.set_cons_zero, List.set_cons_succ]
        refine wpAnyH_take (i := 13) (v := undef) (oper_at (r := _) rfl) (by kernel_rfl) (by kernel_rfl) (by kernel_rfl) (fun _ _ _ h => h) (Or.inr ⟨by rfl, rfl⟩) (by assumption) ?_
        try simp only [Act.put, List.setIfInBounds_toArray, List.set_cons_zero, List.set_cons_succ]
        refine wpAnyH_ready (rs := [14]) (by kernel_rfl) (by simp) ?_
        refine AllReadyH.cons (oper_at (r := _) rfl) (fun K hK => ?_) AllReadyH.nil
        rw [if_neg (by rw [show Region.wanted _ _ = false from rfl]; exact Bool.false_ne_true)]
        refine hK.out _ _ (HM2.out _ HB8.out) (fun _ => ?_)
        clear hK K
        try simp only [Act.put, List.setIfInBounds_toArray, List.set_cons_zero, List.set_cons_succ]
        refine wpAnyH_take (i := 15) (v := undef) (oper_at (r := _) rfl) (by kernel_rfl) (by kernel_rfl) (by kernel_rfl) (fun _ _ _ h => h) (Or.inr ⟨by rfl, rfl⟩) (by assumption) ?_
        try simp only [Act.put, List.setIfInBounds_toArray, List.set_cons_zero, List.set_cons_succ]
        refine wpAnyH_take (i := 16) (v := ?_) (oper_at (r := _) rfl) (by kernel_rfl) (by kernel_rfl) (by kernel_rfl) (fun _ _ _ h => h) (Or.inl ⟨by rfl, ?_⟩) (by assumption) ?_
        rotate_left
        · intro w hSw; try dsimp only at hSw
          go_simp
          try with_reducible rfl
        try simp only [Act.put, List.setIfInBounds_toArray, List.set_cons_zero, List.set_cons_succ]
        refine wpAnyH_take (i := 17) (v := ?_) (oper_at (r := _) rfl) (by kernel_rfl) (by kernel_rfl) (by kernel_rfl) (fun _ _ _ h => h) (Or.inl ⟨by rfl, ?_⟩) (by assumption) ?_
        rotate_left
        · intro w hSw; try dsimp only at hSw
          go_simp
          try with_reducible rfl
        try simp only [Act.put, List.setIfInBounds_toArray, List.set_cons_zero, List.set_cons_succ]
        refine wpAnyH_done (by kernel_rfl) ?_ _
        refine NoPanic.normal ?_
        have HB9 := Lib.hid (HB7.out.trans ((HVD.out.trans (HB8.out.mono HVD.out.size)).mono HB7.out.size))
        go_wp2_with fail
        go_roundw
        case rel => exact ⟨0 + 1, HLT.out, by go_num, HB9.out⟩
        case measure => exact HMS.out
      | succ k1 =>
        have hl1 : k1 < L.length := by omega
        obtain ⟨b2, off2, cs2, e2, hb2, hr, hc⟩ := DReads.at HP7.out hl1
        have HM3 := Lib.hid (HMEM.out _ (List.getElem_mem hl1))
        have HLE := Lib.hid (HAK.out k1 rfl hl1)
        obtain ⟨D1, d1, D2, d2, rfl, r1, r2⟩ := hr
        have k0 := hc 0 _ rfl
        have k1' := hc 1 _ rfl
        generalize L[k1] = q at *
        simp only [show DPart.size = 2 from rfl, Nat.add_zero] at k0 k1'
        injection e2 with e2
        injection e2 with e2 e3
        subst e2 e3
        have PQ := Lib.hid (show PtAt w7 D1 D2 q from ⟨r1, r2, HM3.out.2.1.1, HM3.out.2.1.2⟩)
        have HCM := Lib.hid (fun (u : World) (hu : Below w7.heap.size w7 u) => cmp7_any q c D1 d1 D2 d2 A1 a1 A2 a2 u (PQ.out.up hu) (PC7.out.up hu) HM3.out.2.2.1 HM3.out.2.2.2 HM.out.2.2.1 HM.out.2.2.2)
        generalize cmpP q c = cc at *
        have j0 : (0 : Int) ≤ (k1 : Int) := by omega
        have j1 : (k1 : Int) < (L.length : Int) := by omega
        have j2 : ((k1 : Int)).toNat = k1 := by omega
        have j3 : k1 ≤ 64 := by omega
        have j4 : IntKind.i64.wrap (k1 : Int) = (k1 : Int) := by simp [IntKind.wrap, IntKind.bits] <;> omega
        have HM2 : Hid (∀ u, Below w7.drew.heap.size w7.drew u → (fun u : World => (u.cell? ⟨w.heap.size, 0, none⟩ = some (.slice An g.ns.length cn) ∧ u.cell? ⟨w.heap.size, 1, none⟩ = some (.slice Ae g.es.length ce) ∧ u.cell? ⟨gx, 0, none⟩ = some (.slice A1 c.ns.length a1) ∧ u.cell? ⟨gx, 1, none⟩ = some (.slice A2 c.es.length a2) ∧ u.cell? ⟨b, off + k1 * 2, none⟩ = some (.slice D1 q.ns.length d1) ∧ u.cell? ⟨b, off + k1 * 2 + 1, none⟩ = some (.slice D2 q.es.length d2))) u) := Lib.hid fun u hb => ⟨cell_up hb c0, cell_up hb c1, cell_up hb x0, cell_up hb x1, cell_up hb k0, cell_up hb k1'⟩
        clear c0 c1 x0 x1 k0 k1' hc r1 r2 hb2
        refine wp_region_noPanic ?_
        refine wp_region_held_drew (S := (fun u : World => (u.cell? ⟨w.heap.size, 0, none⟩ = some (.slice An g.ns.length cn) ∧ u.cell? ⟨w.heap.size, 1, none⟩ = some (.slice Ae g.es.length ce) ∧ u.cell? ⟨gx, 0, none⟩ = some (.slice A1 c.ns.length a1) ∧ u.cell? ⟨gx, 1, none⟩ = some (.slice A2 c.es.length a2) ∧ u.cell? ⟨b, off + k1 * 2, none⟩ = some (.slice D1 q.ns.length d1) ∧ u.cell? ⟨b, off + k1 * 2 + 1, none⟩ = some (.slice D2 q.es.length d2)))) (by kernel_rfl) (HM2.out _ WD0.out) (fun hHeld => ?_)
        generalize w7.drew = wd at *
        refine wpAnyH_take (i := 0) (v := ?_) (oper_at (r := _) rfl) (by kernel_rfl) (by kernel_rfl) (by kernel_rfl) (fun _ _ _ h => h) (Or.inl ⟨by rfl, ?_⟩) (by assumption) ?_
        rotate_left
        · intro w hSw; try dsimp only at hSw
          go_simp
          try with_reducible rfl
        try simp only [Act.put, List.setIfInBounds_toArray, List.set_cons_zero, List.set_cons_succ]
        refine wpAnyH_take (i := 1) (v := ?_) (oper_at (r := _) rfl) (by kernel_rfl) (by kernel_rfl) (by kernel_rfl) (fun _ _ _ h => h) (Or.inl ⟨by rfl, ?_⟩) (by assumption) ?_
        rotate_left
        · intro w hSw; try dsimp only at hSw
          go_simp
          try with_reducible rfl
        try simp only [Act.put, List.setIfInBounds_toArray, List.set_cons_zero, List.set_cons_succ]
        refine wpAnyH_ready (rs := [2]) (by kernel_rfl) (by simp) ?_
        refine AllReadyH.cons (oper_at (r := _) rfl) (fun K hK => ?_) AllReadyH.nil
        go_simp
        refine (HVC.out _ HVD.out).mono ?_
        rintro e w8 ⟨rfl, hb⟩
        have HB8 := Lib.hid (HVD.out.trans (hb.mono HVD.out.size))
        have HB8' := Lib.hid hb
        clear hb
        go_wp2_with fail
        refine hK.out _ _ (HM2.out _ HB8'.out) (fun _ => ?_)
        clear hK K
        try simp only [Act.put, List.setIfInBounds_toArray, List.set_cons_zero, List.set_cons_succ]
        refine wpAnyH_take (i := 3) (v := ?_) (oper_at (r := _) rfl) (by kernel_rfl) (by kernel_rfl) (by kernel_rfl) (fun _ _ _ h => h) (Or.inl ⟨by rfl, ?_⟩) (by assumption) ?_
        rotate_left
        · intro w hSw; try dsimp only at hSw
          go_simp
          try with_reducible rfl
        try simp only [Act.put, List.setIfInBounds_toArray, List.set_cons_zero, List.set_cons_succ]
        refine wpAnyH_take (i := 4) (v := ?_) (oper_at (r := _) rfl) (by kernel_rfl) (by kernel_rfl) (by kernel_rfl) (fun _ _ _ h => h) (Or.inl ⟨by rfl, ?_⟩) (by assumption) ?_
        rotate_left
        · intro w hSw; try dsimp only at hSw
          go_simp
          try with_reducible rfl
        try simp only [Act.put, List.setIfInBounds_toArray, List.set_cons_zero, List.set_cons_succ]
        refine wpAnyH_take (i := 5) (v := ?_) (oper_at (r := _) rfl) (by kernel_rfl) (by kernel_rfl) (by kernel_rfl) (fun _ _ _ h => h) (Or.inl ⟨by rfl, ?_⟩) (by assumption) ?_
        rotate_left
        · intro w hSw; try dsimp only at hSw
          go_simp
          try with_reducible rfl
        try simp only [Act.put, List.setIfInBounds_toArray, List.set_cons_zero, List.set_cons_succ]
        refine wpAnyH_take (i := 6) (v := ?_) (oper_at (r := _) rfl) (by kernel_rfl) (by kernel_rfl) (by kernel_rfl) (fun _ _ _ h => h) (Or.inl ⟨by rfl, ?_⟩) (by assumption) ?_
        rotate_left
        · intro w hSw; try dsimp only at hSw
          go_simp
          try with_reducible rfl
        try simp only [Act.put, List.setIfInBounds_toArray, List.set_cons_zero, List.set_cons_succ]
        refine wpAnyH_take (i := 7) (v := ?_) (oper_at (r := _) rfl) (by kernel_rfl) (by kernel_rfl) (by kernel_rfl) (fun _ _ _ h => h) (Or.inl ⟨by rfl, ?_⟩) (by assumption) ?_
        rotate_left
        · intro w hSw; try dsimp only at hSw
          go_simp
          try with_reducible rfl
        try simp only [Act.put, List.setIfInBounds_toArray, List.set_cons_zero, List.set_cons_succ]
        refine wpAnyH_take (i := 8) (v := ?_) (oper_at (r := _) rfl) (by kernel_rfl) (by kernel_rfl) (by kernel_rfl) (fun _ _ _ h => h) (Or.inl ⟨by rfl, ?_⟩) (by assumption) ?_
        rotate_left
        · intro w hSw; try dsimp only at hSw
          go_simp
          try with_reducible rfl
        try simp only [Act.put, List.setIfInBounds_toArray, List.set_cons_zero, List.set_cons_succ]
        refine wpAnyH_take (i := 9) (v := ?_) (oper_at (r := _) rfl) (by kernel_rfl) (by kernel_rfl) (by kernel_rfl) (fun _ _ _ h => h) (Or.inl ⟨by rfl, ?_⟩) (by assumption) ?_
        rotate_left
        · intro w hSw; try dsimp only at hSw
          go_simp
          try with_reducible rfl
        try simp only [Act.put, List.setIfInBounds_toArray, List.set_cons_zero, List.set_cons_succ]
        refine wpAnyH_take (i := 10) (v := ?_) (oper_at (r := _) rfl) (by kernel_rfl) (by kernel_rfl) (by kernel_rfl) (fun _ _ _ h => h) (Or.inl ⟨by rfl, ?_⟩) (by assumption) ?_
        rotate_left
        · intro w hSw; try dsimp only at hSw
          go_simp
          try with_reducible rfl
        try simp only [Act.put, List.setIfInBounds_toArray, List.set_cons_zero, List.set_cons_succ]
        refine wpAnyH_take (i := 11) (v := ?_) (oper_at (r := _) rfl) (by kernel_rfl) (by kernel_rfl) (by kernel_rfl) (fun _ _ _ h => h) (Or.inl ⟨by rfl, ?_⟩) (by assumption) ?_
        rotate_left
        · intro w hSw; try dsimp only at hSw
          go_simp
          try with_reducible rfl
        try simp only [Act.put, List.setIfInBounds_toArray, List.set_cons_zero, List.set_cons_succ]
        refine wpAnyH_take (i := 12) (v := ?_) (oper_at (r := _) rfl) (by kernel_rfl) (by kernel_rfl) (by kernel_rfl) (fun _ _ _ h => h) (Or.inl ⟨by rfl, ?_⟩) (by assumption) ?_
        rotate_left
        · intro w hSw; try dsimp only at hSw
          go_simp
          try with_reducible rfl
        try simp only [Act.put, List.setIfInBounds_toArray, List.set_cons_zero, List.set_cons_succ]
        refine wpAnyH_take (i := 13) (v := ?_) (oper_at (r := _) rfl) (by kernel_rfl) (by kernel_rfl) (by kernel_rfl) (fun _ _ _ h => h) (Or.inl ⟨by rfl, ?_⟩) (by assumption) ?_
        rotate_left
        · intro w hSw; try dsimp only at hSw
          go_simp
          try with_reducible rfl
        try simp only [Act.put, List.setIfInBounds_toArray, List.set_cons_zero, List.set_cons_succ]
        refine wpAnyH_ready (rs := [14]) (by kernel_rfl) (by simp) ?_
        refine AllReadyH.cons (oper_at (r := _) rfl) (fun K hK => ?_) AllReadyH.nil
        go_simp
        refine (HCM.out _ HB8.out).mono ?_
        rintro e w9 ⟨rfl, hb⟩
        have HB9 := Lib.hid (HB8.out.trans (hb.mono HB8.out.size))
        have HB9' := Lib.hid (HB8'.out.trans (hb.mono HB8'.out.size))
        clear hb
        go_wp2_with fail
        refine hK.out _ _ (HM2.out _ HB9'.out) (fun _ => ?_)
        clear hK K
        try simp only [Act.put, List.setIfInBounds_toArray, List.set_cons_zero, List.set_cons_succ]
        have t5 : ¬ (0 : Int) ≤ cc := by have := HLE.out; omega
        refine wpAnyH_take (i := 15) (v := ?_) (oper_at (r := _) rfl) (by kernel_rfl) (by kernel_rfl) (by kernel_rfl) (fun _ _ _ h => h) (Or.inl ⟨by rfl, ?_⟩) (by assumption) ?_
        rotate_left
        · intro w hSw; try dsimp only at hSw
          go_simp
          try with_reducible rfl
        try simp only [Act.put, List.setIfInBounds_toArray, List.set_cons_zero, List.set_cons_succ]
        refine wpAnyH_take (i := 16) (v := ?_) (oper_at (r := _) rfl) (by kernel_rfl) (by kernel_rfl) (by kernel_rfl) (fun _ _ _ h => h) (Or.inl ⟨by rfl, ?_⟩) (by assumption) ?_
        rotate_left
        · intro w hSw; try dsimp only at hSw
          go_simp
          try with_reducible rfl
        try simp only [Act.put, List.setIfInBounds_toArray, List.set_cons_zero, List.set_cons_succ]
        refine wpAnyH_take (i := 17) (v := ?_) (oper_at (r := _) rfl) (by kernel_rfl) (by kernel_rfl) (by kernel_rfl) (fun _ _ _ h => h) (Or.inl ⟨by rfl, ?_⟩) (by assumption) ?_
        rotate_left
        · intro w hSw; try dsimp only at hSw
          go_simp
          try with_reducible rfl
        try simp only [Act.put, List.setIfInBounds_toArray, List.set_cons_zero, List.set_cons_succ]
        refine wpAnyH_done (by kernel_rfl) ?_ _
        refine NoPanic.normal ?_
        have HBX := Lib.hid (HB7.out.trans (HB9.out.mono HB7.out.size))
        go_wp2_with fail
        go_roundw
        case rel => exact ⟨k1 + 1 + 1, HLT.out, by go_num, HBX.out⟩
        case measure => exact HMS.out
    · have e : k = L.length := by omega
      subst e
      have HBZ := Lib.hid HSR.out.1
      go_wp2_with fail
      go_ret
      exact ⟨rfl, HBZ.out⟩

end Go.Proofs.YthnhacncnhknnaaDoor

/-
  The statement SubgraphAll: the law answers true for every input, and its arguments read as they did; its card.
-/
namespace Go.Proofs.YthnhacncnhknnaaDoor.subgraphAll
open Go.ChangeShapes Go.WideShapes Go.ChangeAt Go.RowKit Go.Deep

set_option maxRecDepth 100000 in
theorem lifted (os : Os) (started : os.Started) (H : Type) (enc : TypeId × Value → H) :
    ReturnsInHanded {} Tryd.checked os 9 .any (fun w args => (Rows.subgraphAllSpec.pre enc Tryd.prog Tryd.f9 Rows.subgraphAllRow.domain false w args ∧ laidMetH Tryd.prog laidL w) ∧ sizedMet enc Tryd.prog Tryd.f9 (OpenSpec.ofChange Rows.subgraphAllSpec) false w args)
      (Rows.subgraphAllSpec.post enc Tryd.prog Tryd.f9 false true false false) := by
  refine returnsInHanded_of_change_and (C := Tryd.checked) (X := fun w _ => laidMetH Tryd.prog laidL w) (fun _ _ _ hh h => h.of_heap hh) ownNone started (by kernel_rfl) Tryd.func9
    (ChangeSpec.witness_shaped (enc := enc) (C := Tryd.checked) (os := os) (X := fun w _ => laidMetH Tryd.prog laidL w) false (World.laidAll Tryd.prog os laidL) #[.agg #[.slice none 0 0, .slice none 0 0]] 8 (World.laidAll_os _ _ _)
      (shaped os _) (by kernel_rfl) (by kernel_rfl) (by kernel_rfl) (met os _)) ?_
  intro W base args ds gs before hval0 hW hcnd hsz0 hL _
  have hval : ∀ (j : Nat) t v, Tryd.f9.params[j]? = some t → args[j]? = some v → Value.okWide Tryd.prog W .any base t v := hval0
  have hsz : (DataW.weightsEach Tryd.prog (Tryd.f9.params.toList ++ Rows.subgraphAllSpec.plain.varTypes Tryd.prog) (ds ++ gs)).all (· ≤ reachBytes) = true := hsz0
  have hTab := tab_of_laid hL
  have hW' := hW
  obtain ⟨p, q, hA0, hV, rfl, hfz, hnd⟩ := hW
  have hA : DataW.TrodAll enc Tryd.prog W 0 (fun _ => true) true Tryd.f9.params.toList args.toList ds p := hA0
  rw [Tryd.params9] at hA hval hsz
  obtain ⟨v0, d0, rfl, rfl, h0⟩ := trodAll_one hA
  obtain ⟨rfl, rfl⟩ := trodVars_none hV
  clear hA0 hval0 hsz0 hL hcnd
  simp only [List.append_nil] at hW'
  have hlt : ∀ x ∈ p, x.block < W.heap.size := fun x hx => by simpa using hW'.lt x (by simpa using hx)
  have k0 := h0
  obtain ⟨cs0, rfl, _⟩ := okWide_struct Tryd.underlying25 (hval 0 25 v0 rfl rfl)
  obtain ⟨f0, g0⟩ := h0
  obtain ⟨t0, An0, cn0, Ae0, ce0, e0, hT0⟩ := open_G g0
  obtain rfl := agg_of (e0)
  refine (lawAll7 closeG_any boundaryG_any allG_any validG_any t0 An0 cn0 Ae0 ce0 W hTab hT0).mono fun e W' ⟨he, hg⟩ => ?_
  subst he
  exact ⟨_, rfl, _, _, _, [], p, [], hW', trodAll_cons_mk (shut_bool Tryd.underlying4 _) trodAll_mk0, trodAll_mk1 (Below.trod laidOut (by kernel_rfl) (of_decide_eq_true (by kernel_rfl)) k0 hg (fun x hx => hlt x (hx))), rfl, hg.frame _, fun h => by cases h⟩

theorem f_holds : Rows.SubgraphAllSaid :=
  OpenClaim.holds_of_wide 9 Tryd.f9 rfl rfl rfl rfl rfl rfl rfl ⟨rfl, rfl, rfl, rfl, rfl⟩ rfl rfl rfl rfl rfl (by kernel_rfl) Tryd.func9 (by kernel_rfl)
    (of_decide_eq_true (by kernel_rfl)) (by unfold Func.isWrapper; first | (rw [if_pos (by decide +kernel)]; kernel_rfl) | (rw [if_neg (by decide +kernel)]; exact ⟨rfl, rfl⟩))
    (fun os started H enc _ => lifted os started H enc)

theorem proved : Rows.SubgraphAllCardSaid :=
  Claim7.holds_tied_plain_at .later [] [.data, .data] true (true, "d40fe502c7eb20a2fb0b35b81948407b17b2b9d14f2ae580415a3ab91d0055d3") false
    f_holds (fun _ h => by cases h) (by kernel_rfl) (fun _ h => by cases h) subgraphAll_row_tie rfl ⟨rfl, rfl⟩ (by kernel_rfl) rfl
    (fun f fn hf hfn => by
      obtain rfl : f = 9 := Option.some.inj ((show Tryd.prog.funcNamed "scarfjoint/scarfjointlaw07.SubgraphAll" = some 9 by kernel_rfl).symm.trans hf) |>.symm
      obtain rfl : fn = Tryd.f9 := (Option.some.inj (Tryd.func9.symm.trans hfn)).symm
      exact ⟨by kernel_rfl, fun j t ht => by
        rw [Tryd.params9] at ht
        have hm : t ∈ [25] := List.mem_of_getElem? (by simpa using ht)
        have hs : ∀ t ∈ [25], Tryd.prog.wantsStandIn t = false := by
          intro t ht
          simp only [List.mem_cons, List.not_mem_nil, or_false] at ht
          rcases ht with rfl <;> kernel_rfl
        exact hs t hm⟩)
    (by kernel_rfl)

end Go.Proofs.YthnhacncnhknnaaDoor.subgraphAll
