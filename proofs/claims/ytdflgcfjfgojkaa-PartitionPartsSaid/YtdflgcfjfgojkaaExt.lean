/-
  All partitions: the plain list; contracts of extend and All of the program.
-/
import Derived.Test.YtdflgcfjfgojkaaAll
namespace Go.Proofs.Ytdflgcfjfgojkaa
open Go.RowKit

/-- the partitions of one more element that extend one, below a class -/
def part1 (p : List Nat) (j : Nat) : List (List Nat) := ((List.range j).filter fun c => at_ p c == c).map fun c => p ++ [c]
def extOne (p : List Nat) : List (List Nat) := part1 p p.length ++ [p ++ [p.length]]
def extS (all : List (List Nat)) : List (List Nat) := all.flatMap extOne
def allS : Nat → List (List Nat)
  | 0 => [[]]
  | n + 1 => extS (allS n)

theorem part1_yes {p : List Nat} {j : Nat} (h : at_ p j = j) : part1 p (j + 1) = part1 p j ++ [p ++ [j]] := by
  unfold part1
  rw [List.range_succ, List.filter_append, List.map_append]
  simp [h]
theorem part1_no {p : List Nat} {j : Nat} (h : at_ p j ≠ j) : part1 p (j + 1) = part1 p j := by
  unfold part1
  rw [List.range_succ, List.filter_append, List.map_append]
  simp [h]
theorem part1_len (p : List Nat) (j : Nat) : (part1 p j).length ≤ j := by
  unfold part1
  rw [List.length_map]
  exact Nat.le_trans (List.length_filter_le _ _) (by simp)
theorem extOne_len (p : List Nat) : (extOne p).length ≤ p.length + 1 := by
  have := part1_len p p.length
  simp [extOne]; omega
theorem extS_len (all : List (List Nat)) (h : ∀ p ∈ all, p.length ≤ 10) : (extS all).length ≤ 11 * all.length := by
  induction all with
  | nil => simp [extS]
  | cons p r ih =>
    have h1 := h p (by simp)
    have h2 := ih (fun q hq => h q (by simp [hq]))
    have h3 := extOne_len p
    simp only [extS, List.flatMap_cons, List.length_append, List.length_cons] at h2 ⊢
    omega
theorem extS_snoc (all : List (List Nat)) {k : Nat} (h : k < all.length) : extS (all.take (k + 1)) = extS (all.take k) ++ part1 (all.getD k []) (all.getD k []).length ++ [all.getD k [] ++ [(all.getD k []).length]] := by
  have e : all[k] = all.getD k [] := by simp [List.getD, h]
  rw [List.take_succ_eq_append_getElem h, e]
  simp [extS, extOne]

theorem allS_facts : ∀ n, n ≤ 7 → (allS n).length ≤ 1000 ∧ ∀ p ∈ allS n, p.length = n := by
  have h : ∀ n, n < 8 → ((allS n).length ≤ 1000 ∧ (allS n).all (fun p => p.length == n) = true) := by decide +kernel
  intro n hn
  obtain ⟨h1, h2⟩ := h n (by omega)
  refine ⟨h1, fun p hp => ?_⟩
  have := List.all_eq_true.1 h2 p hp
  simpa using this

theorem le_alloc (w : World) (o : Obj) : w.heap.size ≤ (w.alloc o).heap.size := by simp

theorem Own.shape {w : World} {base : Nat} {v : Value} {ys : List Nat} (h : Own w base v ys) : ∃ A c, v = .slice A ys.length c ∧ ys.length ≤ c ∧ (A = none → ys.length = 0) := by
  rcases h.2 with ⟨hv, hn⟩ | ⟨g, cap, cur, hv, hb, hg, hc, _⟩
  · exact ⟨none, 0, by rw [hv, hn], by omega, fun _ => hn⟩
  · exact ⟨_, cap, hv, hc, fun e => by cases e⟩

theorem wpList_append_clip {w : World} {ops : Array Oper} {rest : List Oper} {o : Oper} {a : Act} {Q : Exit → Act → World → Prop} (hgd : o.guard = none) (s x : Operand)
    (ho : o.op = .call { callee := .builtin .append, args := #[s, x], argTypes := #[22, 22] })
    (A : Option Addr) (p : List Nat) (base c : Nat) (hp : Own w base (.slice A p.length c) p) (hs : a.eval s = .slice A p.length p.length) (ad : Addr) (c' m : Nat) (hx : a.eval x = .slice (some ad) 1 c')
    (hc : w.cell? ad = some (.int .i64 (m : Int))) (hl : p.length ≤ 1000000)
    (hK : ∀ v' w', Own w' w.heap.size v' (p ++ [m]) → Below w.heap.size w w' → wpList Try.prog ops Q rest (a.put o.dst v') w') : wpList Try.prog ops Q (o :: rest) a w := by
  obtain ⟨i0, hi, hz0, hz1, hz2⟩ := info_parts infoInt
  refine wpList_append_grows w hgd s x 22 ho 3 i0 (.int .i64 0) 1 8 Try.underlying22 hi hz0 hz1 hz2 rfl (by decide) A p.length p.length (cellsN p) hs ?_ (by rw [cellsN_length]; omega) ?_ ad 1 c' [.int .i64 (m : Int)] hx rfl ?_ ?_ (by omega) (by unfold maxLen; omega) (by omega) ?_
  · intro e
    subst e
    obtain ⟨A', c2, e, _, h0⟩ := hp.shape
    simp only [Value.slice.injEq] at e
    have := h0 e.1.symm
    exact ⟨this, this⟩
  · intro b e j u hu
    subst e
    rcases hp.2 with ⟨e, _⟩ | ⟨g, cap, cur, e, _⟩
    · cases e
    · simp only [Value.slice.injEq, Option.some.injEq, true_and] at e
      obtain ⟨rfl, _⟩ := e
      exact World.ownsRow.cells hp rfl j u hu
  · intro j u hj
    cases j with
    | zero =>
      simp at hj; subst hj
      obtain ⟨b, off, sp⟩ := ad
      have : (⟨b, off, sp⟩ : Addr).add 0 = ⟨b, off, sp⟩ := by simp [Addr.add]
      rw [this]; exact hc
    | succ j => simp at hj
  · intro u hu; simp at hu; subst hu; rfl
  · intro v' w' h1 h2
    refine hK v' w' ?_ ((Below.refl _ w).grown h2 (Nat.le_refl _) (by intro k hk; cases hk))
    unfold Own
    rw [cellsN_snoc, List.length_append]
    exact h1

set_option maxHeartbeats 2000000 in
theorem extend_any (all : List (List Nat)) (v : Value) (base : Nat) (w : World) (hn : all.length ≤ 1000) (hp : ∀ p ∈ all, p.length ≤ 10) (hA : OwnL w base v all) :
    Calls Try.prog 42 #[v] w fun e w' => ∃ v', e = .returned v' ∧ OwnL w' w.heap.size v' (extS all) ∧ Below w.heap.size w w' := by
  obtain ⟨ao, cap, rfl⟩ := hA.slice
  have HA := Lib.hid hA
  have HP := Lib.hid hp
  clear hA hp
  go_enter Try.func42, Try.ntmps42
  go_wp2_with fail
  go_loopw [3, 10] (fun v x wr => ∃ k : Nat, k ≤ all.length ∧ x = .int .i64 k ∧ OwnL wr w.heap.size v (extS (all.take k)) ∧ Below w.heap.size w wr) (fun _ x _ => all.length - (intOf x).toNat)
  case atStart => exact ⟨0, Nat.zero_le _, rfl, OwnL.nil _ _, Below.refl _ _⟩
  case round =>
    obtain ⟨k, hk, rfl, hown, hbel⟩ := hrel
    by_cases hlt : k < all.length
    · obtain ⟨b, cp, u, e1, hb, ck0, hu⟩ := HA.out.at hlt
      simp only [Value.slice.injEq, true_and] at e1
      obtain ⟨rfl, rfl⟩ := e1
      have ck := (hbel.cell (p := ⟨b, k, none⟩) hb).trans ck0
      obtain ⟨A, c, rfl, hpc, hpn⟩ := hu.shape
      have hmem : all.getD k [] ∈ all := by rw [List.getD, List.getElem?_eq_getElem hlt]; exact List.getElem_mem hlt
      have hp10 := HP.out _ hmem
      have HS := Lib.hid (extS_snoc all hlt)
      have hlen0 : (extS (all.take k)).length ≤ 11 * 1000 := by
        have := extS_len (all.take k) (fun p hp => HP.out p (List.mem_of_mem_take hp))
        rw [List.length_take] at this
        omega
      have HU := Lib.hid hu
      have HW := Lib.hid hown
      have HG := Lib.hid hbel
      clear hown hbel hu ck0 hmem hpn
      generalize all.getD k [] = p at ck hpc hp10 HS HU
      generalize extS (all.take k) = L0 at HS HW hlen0
      obtain ⟨wo, rfl⟩ : ∃ wo : World, wo = wr := ⟨_, rfl⟩
      have HPC := Lib.hid hpc
      clear hpc
      go_wp2_with fail
      go_loopw [3, 16] (fun v x wr => ∃ j : Nat, j ≤ p.length ∧ x = .int .i64 j ∧ OwnL wr w.heap.size v (L0 ++ part1 p j) ∧ Below w.heap.size w wr) (fun _ x _ => p.length - (intOf x).toNat)
      case atStart => exact ⟨0, Nat.zero_le _, rfl, by simpa [part1] using HW.out, HG.out⟩
      case round =>
        obtain ⟨j, hj, rfl, hown, hbel⟩ := hrel
        have hpl := part1_len p j
        have hlen1 : (L0 ++ part1 p j).length ≤ 11 * 1000 + 10 := by rw [List.length_append]; omega
        have HW1 := Lib.hid hown
        have HG1 := Lib.hid hbel
        have hsz := hbel.size
        have HU1 := Lib.hid (HU.out.below hbel (Nat.le_refl _))
        by_cases hlj : j < p.length
        · obtain ⟨A', c', e2, hT⟩ := HU1.out.ints
          simp only [Value.slice.injEq, true_and] at e2
          obtain ⟨rfl, rfl⟩ := e2
          obtain ⟨b2, off2, rfl, hb2, hc2⟩ := hT.atN hlj
          have cj := hc2 j hlj
          clear hown hbel hT hc2
          by_cases he : at_ p j = j
          · have H1 := Lib.hid (part1_yes he)
            rw [he] at cj
            clear he
            have t1 : ((j : Int) == (j : Int)) = true := by simp
            go_wp2_with fail
            refine (clip_any _ _ _ _ HPC.out).mono ?_
            rintro e w' ⟨rfl, rfl⟩
            go_wp2_with (at_builtin; refine wpList_append_clip rfl _ _ rfl _ p base c (World.ownsRow.alloc HU1.out _) rfl ⟨wr.heap.size, 0, none⟩ 1 j rfl ?qc1 ?qc2 ?_)
            case qc1 => exact cell_new _ _ _
            case qc2 => omega
            intro v1 w1 hown1 hb1
            obtain ⟨A1, cp1, rfl⟩ := slice_of hown1
            have hsz1 : wr.heap.size + 1 ≤ w1.heap.size := by simpa using hb1.size
            have HV1 := Lib.hid (hown1.mono (show w.heap.size ≤ wr.heap.size + 1 by omega))
            have HB1 := Lib.hid ((HG1.out.alloc hsz _).trans (hb1.mono (by omega)))
            have hbx : Below wr.heap.size wr w1 := ((Below.refl _ wr).alloc (Nat.le_refl _) _).trans (hb1.mono (by omega))
            have HL1 := Lib.hid (HW1.out.below hbx (Nat.le_refl _))
            clear hown1 hb1 hbx
            go_wp2_with (at_builtin; refine wpList_append_row (w := w1.alloc _) rfl _ _ rfl w.heap.size _ (L0 ++ part1 p j) rfl ?y2 ⟨w1.heap.size, 0, none⟩ 1 ?y3 (.slice A1 (p ++ [j]).length cp1) (p ++ [j]) ?qc1 ?y4 ?qc2 ?qc3 ?_)
            case y2 => exact OwnL.below HL1.out ((Below.refl _ w1).alloc (Nat.le_refl _) _) (Nat.le_refl _)
            case y3 => rfl
            case y4 => exact World.ownsRow.alloc HV1.out _
            case qc1 => simp
            case qc2 => omega
            case qc3 => simp; omega
            intro v2 w2 hown2 hb2
            have HW2 := Lib.hid hown2
            have HB2 := Lib.hid ((HB1.out.alloc (by omega) _).trans hb2)
            clear hown2 hb2
            go_wp2_with fail
            go_roundw
            case rel => exact ⟨j + 1, by omega, by go_num, by rw [H1.out]; exact HW2.out, HB2.out⟩
            case measure => simp [intOf]; omega
          · have H1 := Lib.hid (part1_no he)
            have t1 : ((j : Int) == (at_ p j : Int)) = false := by simp; omega
            clear he
            go_wp2_with fail
            go_roundw
            case rel => exact ⟨j + 1, by omega, by go_num, by rw [H1.out]; exact HW1.out, HG1.out⟩
            case measure => simp [intOf]; omega
        · have e : j = p.length := by omega
          subst e
          clear hown hbel
          go_wp2_with fail
          refine (clip_any _ _ _ _ HPC.out).mono ?_
          rintro e w' ⟨rfl, rfl⟩
          go_wp2_with (at_builtin; refine wpList_append_clip (w := wr.alloc _) rfl _ _ rfl A p base c ?x1 ?x2 ⟨wr.heap.size, 0, none⟩ 1 p.length ?x3 ?qc1 ?qc2 ?_)
          case x1 => exact World.ownsRow.alloc HU1.out _
          case x2 => rfl
          case x3 => rfl
          case qc1 => exact cell_new _ _ _
          case qc2 => omega
          intro v1 w1 hown1 hb1
          obtain ⟨A1, cp1, rfl⟩ := slice_of hown1
          have hsz1 : wr.heap.size + 1 ≤ w1.heap.size := by simpa using hb1.size
          have HV1 := Lib.hid (hown1.mono (show w.heap.size ≤ wr.heap.size + 1 by omega))
          have HB1 := Lib.hid ((HG1.out.alloc hsz _).trans (hb1.mono (by omega)))
          have hbx : Below wr.heap.size wr w1 := ((Below.refl _ wr).alloc (Nat.le_refl _) _).trans (hb1.mono (by omega))
          have HL1 := Lib.hid (HW1.out.below hbx (Nat.le_refl _))
          clear hown1 hb1 hbx
          go_wp2_with (at_builtin; refine wpList_append_row (w := w1.alloc _) rfl _ _ rfl w.heap.size _ (L0 ++ part1 p p.length) rfl ?y2 ⟨w1.heap.size, 0, none⟩ 1 ?y3 (.slice A1 (p ++ [p.length]).length cp1) (p ++ [p.length]) ?qc1 ?y4 ?qc2 ?qc3 ?_)
          case y2 => exact OwnL.below HL1.out ((Below.refl _ w1).alloc (Nat.le_refl _) _) (Nat.le_refl _)
          case y3 => rfl
          case y4 => exact World.ownsRow.alloc HV1.out _
          case qc1 => simp
          case qc2 => omega
          case qc3 => simp; omega
          intro v2 w2 hown2 hb2
          have HW2 := Lib.hid hown2
          have HB2 := Lib.hid ((HB1.out.alloc (by omega) _).trans hb2)
          clear hown2 hb2
          go_wp2_with fail
          go_roundw
          case rel => exact ⟨k + 1, by omega, by go_num, by rw [HS.out, List.append_assoc]; exact HW2.out, HB2.out⟩
          case measure => simp [intOf]; omega
    · have HT := Lib.hid (show extS (all.take k) = extS all by rw [List.take_of_length_le (by omega)])
      have HW := Lib.hid hown
      clear hown
      go_wp2
      go_ret
      exact ⟨_, rfl, OwnL.cast HT.out HW.out, hbel⟩

/-- what All returns for a number -/
def sevenS (n : Int) : Nat := sizeS n 7
theorem seven_high {n : Int} (h : 7 < n) : sevenS n = 3 := by unfold sevenS sizeS; rw [if_pos h]
theorem seven_low {n : Int} (h : n < 0) : sevenS n = 6 := by unfold sevenS sizeS; rw [if_neg (by omega), if_pos h]
theorem seven_ok {n : Int} (h : 0 ≤ n) (h7 : n ≤ 7) : sevenS n = 0 := by unfold sevenS sizeS; rw [if_neg (by omega), if_neg (by omega)]

theorem all_err (n : Int) (w : World) (h : n < 0 ∨ 7 < n) :
    Calls Try.prog 26 #[.int .i64 n] w fun e w' => Err2 (sevenS n) e ∧ w = w' := by
  have HC := Lib.hid (checkSize_any n 7 w)
  have t : ((sevenS n : Int) != 0) = true := by
    rcases h with h | h
    · rw [seven_low h]; rfl
    · rw [seven_high h]; rfl
  have HC2 : Hid (Calls Try.prog 41 #[.int .i64 n, .int .i64 7] w fun e w' => e = .returned (.int .i64 (sevenS n)) ∧ w = w') := HC
  clear HC h
  generalize sevenS n = m at t HC2 ⊢
  go_enter Try.func26, Try.ntmps26
  go_wp2_with fail
  refine HC2.out.mono ?_
  rintro e w' ⟨rfl, rfl⟩
  go_wp2_with fail
  go_ret2
  exact ⟨rfl, rfl⟩

/-- a list of lists, made by the call, and no error -/
def ResL (w w' : World) (R : List (List Nat)) (e : Ending) : Prop := ∃ v, e = .returned (.tuple #[v, .int .i64 0]) ∧ OwnL w' w.heap.size v R ∧ Below w.heap.size w w'

theorem own_one_nil (w : World) (base : Nat) (hb : base ≤ w.heap.size) : OwnL (w.alloc (.cells #[.slice none 0 0] 22)) base (.slice (some ⟨w.heap.size, 0, none⟩) 1 1) [[]] :=
  ⟨_, World.ownsRow_lit (base := base) (e := 22) (size := 1) w #[.slice none 0 0] 1 hb (by decide) rfl, fun i xs h => by
    cases i with
    | zero => simp at h; subst h; exact ⟨_, rfl, World.ownsRow_nil _ _ _ _⟩
    | succ i => simp at h⟩

set_option maxHeartbeats 1000000 in
theorem all_ok (n : Nat) (w : World) (h7 : n ≤ 7) :
    Calls Try.prog 26 #[.int .i64 n] w fun e w' => ResL w w' (allS n) e := by
  have HC : Hid (Calls Try.prog 41 #[.int .i64 n, .int .i64 7] w fun e w' => e = .returned (.int .i64 0) ∧ w = w') := by
    have := checkSize_any n 7 w
    rw [show sizeS (n : Int) 7 = 0 from seven_ok (by omega) (by omega)] at this
    exact this
  have HF := Lib.hid (own_one_nil w w.heap.size (Nat.le_refl _))
  go_enter Try.func26, Try.ntmps26
  go_wp2_with fail
  refine HC.out.mono ?_
  rintro e w' ⟨rfl, rfl⟩
  go_wp2_with fail
  go_loopw [5, 13] (fun v x wr => ∃ k : Nat, k ≤ n ∧ x = .int .i64 k ∧ OwnL wr w.heap.size v (allS k) ∧ Below w.heap.size w wr) (fun _ x _ => n - (intOf x).toNat)
  case atStart => exact ⟨0, Nat.zero_le _, rfl, HF.out, (Below.refl _ _).alloc (Nat.le_refl _) _⟩
  case round =>
    obtain ⟨k, hk, rfl, hown, hbel⟩ := hrel
    have HW := Lib.hid hown
    have HG := Lib.hid hbel
    have hsz := hbel.size
    clear hown hbel
    by_cases hlt : k < n
    · have HE := Lib.hid (fun v h => extend_any (allS k) v w.heap.size wr (allS_facts k (by omega)).1 (fun p hp => by rw [(allS_facts k (by omega)).2 p hp]; omega) h)
      go_wp2_with fail
      refine (HE.out _ HW.out).mono ?_
      rintro e w2 ⟨v2, rfl, hown2, hb2⟩
      have HW2 := Lib.hid (hown2.mono hsz)
      have HB2 := Lib.hid (HG.out.trans (hb2.mono hsz))
      clear hown2 hb2
      go_wp2_with fail
      go_roundw
      case rel => exact ⟨k + 1, by omega, by go_num, HW2.out, HB2.out⟩
      case measure => simp [intOf]; omega
    · have e : k = n := by omega
      subst e
      go_wp2
      go_ret2
      exact ⟨_, rfl, HW.out, HG.out⟩

end Go.Proofs.Ytdflgcfjfgojkaa
