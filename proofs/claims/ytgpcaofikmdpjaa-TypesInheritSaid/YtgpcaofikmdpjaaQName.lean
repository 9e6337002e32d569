/-
  Types, the program: checkName at texts, attributes, node types and edge types.
-/
import Derived.Test.YtgpcaofikmdpjaaQPrim
namespace Go.Proofs.Ytgpcaofikmdpjaa
open Go.RowKit

theorem cloS_any (n : ByteArray)  (w : World) : Calls Try.prog 76 #[.string n] w fun e w' => e = .returned (.string n) ∧ Below w.heap.size w w' := by
  go_enter Try.func76, Try.ntmps76
  go_wp2_with fail
  go_ret
  exact ⟨rfl, Below.refl _ _⟩

/-- the boxes of a name function and of an element -/
abbrev BxS (nb xb : Nat) (n' : ByteArray)  (u : World) : Prop := u.cell? ⟨nb, 0, none⟩ = some (.func (.func 76) #[] #[]) ∧ u.cell? ⟨xb, 0, none⟩ = some (.string n')
theorem BxS.below {nb xb : Nat} {n' : ByteArray}  {w u : World} {B : Nat} (h : BxS nb xb n'  w) (h1 : nb < B) (h2 : xb < B) (hb : Below B w u) : BxS nb xb n'  u := by
  obtain ⟨g0, x0⟩ := h
  exact ⟨(hb.cell (p := ⟨nb, 0, none⟩) h1).trans g0, (hb.cell (p := ⟨xb, 0, none⟩) h2).trans x0⟩
theorem BxS.lt {nb xb : Nat} {n' : ByteArray}  {w : World} (h : BxS nb xb n'  w) : nb < w.heap.size ∧ xb < w.heap.size := by
  obtain ⟨g0, x0⟩ := h
  exact ⟨block_lt_of_cell g0, block_lt_of_cell x0⟩

abbrev SxS (w : World) (nb xb : Nat) (n' : ByteArray) (u : World) : Prop := BxS nb xb n' u ∧ Below w.heap.size w u
set_option maxRecDepth 100000 in
set_option maxHeartbeats 2000000 in
theorem hasS_any (n n' : ByteArray)   (nb xb : Nat) (w : World) (hx : BxS nb xb n'  w) :
    Calls Try.prog 84 #[.string n, .pointer (some ⟨nb, 0, none⟩), .pointer (some ⟨xb, 0, none⟩)] w fun e w' => e = .returned (.bool (decide (n = n'))) ∧ Below w.heap.size w w' := by
  obtain ⟨hn1, hx1⟩ := hx.lt
  have HS : Hid (∀ u, Below w.heap.size w u → (fun u => SxS w nb xb n' u) u) := Lib.hid fun u hu => ⟨hx.below (B := w.heap.size) hn1 hx1 hu, hu⟩
  have HC : Hid (∀ (n2 : ByteArray)  (u : World), (fun u => SxS w nb xb n' u) u → Calls Try.prog 76 #[.string n2] u fun e w' => e = .returned (.string n2) ∧ (fun u => SxS w nb xb n' u) w') := Lib.hid fun n2  u hu => by
    refine (cloS_any n2  u).mono ?_
    rintro e w' ⟨rfl, h2⟩
    exact ⟨rfl, HS.out w' (hu.2.trans (h2.mono hu.2.size))⟩
  have HS0 := Lib.hid (HS.out _ (Below.drew (Below.refl w.heap.size w)))
  have HFIN : Hid (∀ u, (fun u => SxS w nb xb n' u) u → Below w.heap.size w u) := Lib.hid fun u hu => hu.2
  have HEQ : Hid (n = n' → decide (n = n') = true) := Lib.hid fun h => decide_eq_true h
  have HNE : Hid (¬ n = n' → decide (n = n') = false) := Lib.hid fun h => decide_eq_false h
  generalize decide (n = n') = R at HEQ HNE ⊢
  clear hx
  by_cases hnn : n = n'
  · have HR := Lib.hid (HEQ.out hnn)
    subst hnn
    clear HEQ HNE
    go_enter Try.func84, Try.ntmps84
    go_wp2_with fail
    go_region_held3 (fun u => SxS w nb xb n u) (first | assumption | exact HS0.out)
      ((with_reducible refine (HC.out _  _ (by assumption)).mono ?_; rintro e w2 ⟨rfl, hs2⟩))
    all_goals
      have HB2 := Lib.hid (HFIN.out _ hs2)
      clear hs2
      go_wp2_with fail
      go_ret
      exact ⟨ret_bool HR.out.symm, HB2.out⟩
  · have HR := Lib.hid (HNE.out hnn)
    have t1 := str_ne hnn
    clear HEQ HNE
    go_enter Try.func84, Try.ntmps84
    go_wp2_with fail
    go_region_held3 (fun u => SxS w nb xb n' u) (first | assumption | exact HS0.out)
      ((with_reducible refine (HC.out _  _ (by assumption)).mono ?_; rintro e w2 ⟨rfl, hs2⟩))
    all_goals
      have HB2 := Lib.hid (HFIN.out _ hs2)
      clear hs2
      go_wp2_with fail
      go_ret
      exact ⟨ret_bool HR.out.symm, HB2.out⟩

/-- what IndexFunc answers: whether one is found -/
def IdxS (b : Bool) (e : Ending) : Prop := ∃ k : Int, e = .returned (.int .i64 k) ∧ decide (0 ≤ k) = b
set_option maxRecDepth 100000 in
set_option maxHeartbeats 2000000 in
theorem idxS_any (l : List ByteArray) (A : Option Addr) (c B : Nat) (n' : ByteArray)  (nb xb : Nat) (w : World) (hl : l.length ≤ 1000) (hB : B ≤ w.heap.size) (hL : Strs w B A l) (hx : BxS nb xb n'  w) :
    Calls Try.prog 97 #[.slice A l.length c, .func (.func 84) #[] #[.pointer (some ⟨nb, 0, none⟩), .pointer (some ⟨xb, 0, none⟩)]] w fun e w' => IdxS (l.any fun y => decide (y = n')) e ∧ Below w.heap.size w w' := by
  have HL := Lib.hid hL
  obtain ⟨hn1, hx1⟩ := hx.lt
  have HC : Hid (∀ (n : ByteArray)  (u : World), Below w.heap.size w u → Calls Try.prog 84 #[.string n, .pointer (some ⟨nb, 0, none⟩), .pointer (some ⟨xb, 0, none⟩)] u fun e w' => e = .returned (.bool (decide (n = n'))) ∧ Below u.heap.size u w') :=
    Lib.hid fun n  u hu => hasS_any n n'   nb xb u (hx.below hn1 hx1 hu)
  have HALL : Hid (∀ b, (l.any fun y => decide (y = n')) = b → ∀ k : Int, decide (0 ≤ k) = b → IdxS (l.any fun y => decide (y = n')) (.returned (.int .i64 k))) := Lib.hid fun b h k hk => ⟨k, rfl, by rw [h]; exact hk⟩
  have HYS : Hid (∀ (i : Nat) (hi : i < l.length), decide (l[i] = n') = true → (l.any fun y => decide (y = n')) = true) := Lib.hid fun i hi h => List.any_eq_true.2 ⟨l[i], List.getElem_mem hi, h⟩
  have HNS : Hid ((∀ y ∈ l.take l.length, decide (y = n') = false) → (l.any fun y => decide (y = n')) = false) := Lib.hid fun h => any_none (by rwa [List.take_length] at h)
  have HNT : Hid (∀ (i : Nat) (hi : i < l.length), (∀ y ∈ l.take i, decide (y = n') = false) → decide (l[i] = n') = false → ∀ y ∈ l.take (i + 1), decide (y = n') = false) := Lib.hid fun i hi h h2 => none_take hi h h2
  generalize (l.any fun y => decide (y = n')) = R at HALL HYS HNS ⊢
  clear hL hx
  go_enter Try.func97, Try.ntmps97
  go_wp2_with fail
  go_loopw [8] (fun vi wr => ∃ i : Nat, i ≤ l.length ∧ vi = .int .i64 i ∧ Below w.heap.size w wr ∧ (∀ y ∈ l.take i, decide (y = n') = false)) (fun vi _ => l.length - (intOf vi).toNat)
  case atStart => exact ⟨0, Nat.zero_le _, rfl, Below.refl _ _, fun x hx => by simp at hx⟩
  case round =>
    obtain ⟨i, hi, rfl, hb, hno⟩ := hrel
    have HB := Lib.hid hb
    by_cases hlt : i < l.length
    · obtain ⟨b1, off, rfl, hbb, k0⟩ := Strs.cell ((Reads.mono HL.out hB).below hb) hlt
      have HNO := Lib.hid (HNT.out i hlt hno)
      have HYES := Lib.hid (HYS.out i hlt)
      have q0 : (0 : Int) ≤ (i : Int) := by omega
      have q1 : (i : Int) < (l.length : Int) := by omega
      have q2 : ((i : Int)).toNat = i := by omega
      have t1 : decide ((0 : Int) ≤ (i : Int)) = true := decide_eq_true q0
      have T1 := Lib.hid t1
      generalize l[i] = x at k0 HNO HYES
      have HCI := Lib.hid (HC.out x  wr hb)
      generalize decide (x = n') = z at HCI HNO HYES
      have hsz := hb.size
      clear hb hno t1
      go_wp2_with fail
      refine HCI.out.mono ?_
      rintro e w2 ⟨rfl, hb2⟩
      have HB2 := Lib.hid (HB.out.trans (hb2.mono hsz))
      clear hb2
      cases z
      case true =>
        have HY := Lib.hid (HALL.out true (HYES.out rfl) i T1.out)
        clear HYES HNO HCI
        go_wp2_with fail
        go_ret
        exact ⟨HY.out, HB2.out⟩
      case false =>
        have HX := Lib.hid (HNO.out rfl)
        clear HYES HNO HCI
        go_wp2_with fail
        go_roundw
        case rel => exact ⟨i + 1, by omega, by go_num, HB2.out, HX.out⟩
        case measure => simp [intOf]; omega
    · have HX := Lib.hid (HALL.out false (HNS.out (by rw [show l.length = i by omega]; exact hno)) (-1) rfl)
      clear hno hb
      go_wp2_with fail
      go_ret
      exact ⟨HX.out, HB.out⟩

set_option maxRecDepth 100000 in
theorem contS_any (l : List ByteArray) (A : Option Addr) (c B : Nat) (n' : ByteArray)  (nb xb : Nat) (w : World) (hl : l.length ≤ 1000) (hB : B ≤ w.heap.size) (hL : Strs w B A l) (hx : BxS nb xb n'  w) :
    Calls Try.prog 85 #[.slice A l.length c, .func (.func 84) #[] #[.pointer (some ⟨nb, 0, none⟩), .pointer (some ⟨xb, 0, none⟩)]] w fun e w' => e = .returned (.bool (l.any fun y => decide (y = n'))) ∧ Below w.heap.size w w' := by
  have HI := Lib.hid (idxS_any l A c B n'  nb xb w hl hB hL hx)
  generalize (l.any fun y => decide (y = n')) = R at HI ⊢
  clear hL hx
  go_enter Try.func85, Try.ntmps85
  go_wp2_with fail
  refine HI.out.mono ?_
  rintro e w2 ⟨⟨k, rfl, hk⟩, hb⟩
  have HB := Lib.hid hb
  clear hb HI
  cases R
  all_goals
    go_wp2_with fail
    go_ret
    exact ⟨rfl, HB.out⟩

/-- the error of a name behind others -/
theorem bxS_of {w u : World} {n' : ByteArray}  (h : Below (w.heap.size + 1 + 1) ((w.alloc (.cells #[.string n'] 9 (0, 0))).alloc (.cells #[.func (.func 76) #[] #[]] 101 (0, 0))) u) : BxS (w.heap.size + 1) w.heap.size n'  u := by
  have cx : ∀ j, u.cell? ⟨w.heap.size, j, none⟩ = (#[.string n'])[j]? := fun j => (h.cell (p := ⟨w.heap.size, j, none⟩) (by show w.heap.size < _; omega)).trans (cell_of_row _ _ _ _ _ _ (heap_two _ _ _))
  have cn : ∀ j, u.cell? ⟨w.heap.size + 1, j, none⟩ = (#[.func (.func 76) #[] #[]])[j]? := fun j => (h.cell (p := ⟨w.heap.size + 1, j, none⟩) (by show w.heap.size + 1 < _; omega)).trans (cell_of_row _ _ _ _ _ _ (heap_two' _ _ _))
  exact ⟨cn 0, cx 0⟩

set_option maxRecDepth 100000 in
set_option maxHeartbeats 2000000 in
theorem checkS_any (hn : NameC 60) (l : List ByteArray) (A : Option Addr) (c : Nat) (n' : ByteArray)  (w : World) (hl : l.length ≤ 1000) (hs : n'.size ≤ 40) (hL : Strs w w.heap.size A l) :
    Calls Try.prog 75 #[.slice A l.length c, .string n', .func (.func 76) #[] #[]] w fun e w' => e = .returned (.int .i64 (chkR n' (l.any fun y => decide (y = n')))) ∧ Below w.heap.size w w' := by
  have HBX : Hid (∀ u, Below (w.heap.size + 1 + 1) ((w.alloc (.cells #[.string n'] 9 (0, 0))).alloc (.cells #[.func (.func 76) #[] #[]] 101 (0, 0))) u → BxS (w.heap.size + 1) w.heap.size n'  u) := Lib.hid fun u hu => bxS_of hu
  have HBW : Hid (∀ u, Below (w.heap.size + 1 + 1) ((w.alloc (.cells #[.string n'] 9 (0, 0))).alloc (.cells #[.func (.func 76) #[] #[]] 101 (0, 0))) u → Below w.heap.size w u) := Lib.hid fun u h => (((Below.refl w.heap.size w).alloc (Nat.le_refl _) _).alloc (by simp) _).trans (h.mono (by omega))
  have HCO : Hid (∀ u, Below (w.heap.size + 1 + 1) ((w.alloc (.cells #[.string n'] 9 (0, 0))).alloc (.cells #[.func (.func 76) #[] #[]] 101 (0, 0))) u → Calls Try.prog 85 #[.slice A l.length c, .func (.func 84) #[] #[.pointer (some ⟨w.heap.size + 1, 0, none⟩), .pointer (some ⟨w.heap.size, 0, none⟩)]] u fun e w' => e = .returned (.bool (l.any fun y => decide (y = n'))) ∧ Below u.heap.size u w') := Lib.hid fun u hu =>
    contS_any l A c w.heap.size n'  (w.heap.size + 1) w.heap.size u hl (HBW.out u hu).size (Reads.below hL (HBW.out u hu)) (HBX.out u hu)
  have HCL := Lib.hid (fun u => cloS_any n'  u)
  have HN := Lib.hid (fun u => hn n' u hs)
  have HX : Hid (∀ b, chkR n' b = if isNm n' = false then 2 else if b = true then 5 else 0) := Lib.hid fun b => rfl
  generalize (l.any fun y => decide (y = n')) = b2 at HCO ⊢
  have HX2 := Lib.hid (HX.out b2)
  clear hL hn hs HX
  generalize chkR n' b2 = R at HX2 ⊢
  generalize isNm n' = z at HN HX2
  go_enter Try.func75, Try.ntmps75
  go_wp2_with fail
  refine (HCL.out _).mono ?_
  rintro e w1 ⟨rfl, hb1⟩
  have HB1 := Lib.hid (below_two hb1)
  have hz1 : w.heap.size + 1 + 1 ≤ w1.heap.size := by have := HB1.out.size; simpa using this
  clear hb1
  obtain ⟨g0, x0⟩ := HBX.out _ HB1.out
  go_wp2_with fail
  refine (HN.out _).mono ?_
  rintro e w2 ⟨rfl, hb2⟩
  have HB2 := Lib.hid (HB1.out.trans (hb2.mono hz1))
  clear hb2
  cases z
  case false =>
    go_wp2_with fail
    go_ret
    exact ⟨ret_int (by rw [HX2.out]; rfl), HBW.out _ HB2.out⟩
  case true =>
    go_wp2_with fail
    refine (HCO.out _ HB2.out).mono ?_
    rintro e w3 ⟨rfl, hb3⟩
    have HB3 := Lib.hid ((HBW.out _ HB2.out).trans (hb3.mono (HBW.out _ HB2.out).size))
    clear hb3
    cases b2
    all_goals
      go_wp2_with fail
      go_ret
      exact ⟨ret_int (by rw [HX2.out]; rfl), HB3.out⟩

theorem cloA_any (n : ByteArray) (p q : Int) (A : Option Addr) (m c : Nat) (w : World) : Calls Try.prog 64 #[.agg #[.string n, .int .i64 p, .int .i64 q, .slice A m c]] w fun e w' => e = .returned (.string n) ∧ Below w.heap.size w w' := by
  have HB0 := Lib.hid (fun (o : Obj) => (Below.refl w.heap.size w).alloc (Nat.le_refl _) o)
  go_enter Try.func64, Try.ntmps64
  go_wp2_with fail
  go_ret
  exact ⟨rfl, HB0.out _⟩

/-- the boxes of a name function and of an element -/
abbrev BxA (nb xb : Nat) (n' : ByteArray) (p' q' : Int) (A' : Option Addr) (m' c' : Nat) (u : World) : Prop := u.cell? ⟨nb, 0, none⟩ = some (.func (.func 64) #[] #[]) ∧ u.cell? ⟨xb, 0, none⟩ = some (.string n') ∧ u.cell? ⟨xb, 1, none⟩ = some (.int .i64 p') ∧ u.cell? ⟨xb, 2, none⟩ = some (.int .i64 q') ∧ u.cell? ⟨xb, 3, none⟩ = some (.slice A' m' c')
theorem BxA.below {nb xb : Nat} {n' : ByteArray} {p' q' : Int} {A' : Option Addr} {m' c' : Nat} {w u : World} {B : Nat} (h : BxA nb xb n' p' q' A' m' c' w) (h1 : nb < B) (h2 : xb < B) (hb : Below B w u) : BxA nb xb n' p' q' A' m' c' u := by
  obtain ⟨g0, x0, x1, x2, x3⟩ := h
  exact ⟨(hb.cell (p := ⟨nb, 0, none⟩) h1).trans g0, (hb.cell (p := ⟨xb, 0, none⟩) h2).trans x0, (hb.cell (p := ⟨xb, 1, none⟩) h2).trans x1, (hb.cell (p := ⟨xb, 2, none⟩) h2).trans x2, (hb.cell (p := ⟨xb, 3, none⟩) h2).trans x3⟩
theorem BxA.lt {nb xb : Nat} {n' : ByteArray} {p' q' : Int} {A' : Option Addr} {m' c' : Nat} {w : World} (h : BxA nb xb n' p' q' A' m' c' w) : nb < w.heap.size ∧ xb < w.heap.size := by
  obtain ⟨g0, x0, _, _, _⟩ := h
  exact ⟨block_lt_of_cell g0, block_lt_of_cell x0⟩

abbrev SxA (w : World) (nb xb : Nat) (n' : ByteArray) (p' q' : Int) (A' : Option Addr) (m' c' : Nat) (n : ByteArray) (p q : Int) (A : Option Addr) (m c : Nat) (u : World) : Prop := BxA nb xb n' p' q' A' m' c' u ∧ (u.cell? ⟨w.heap.size, 0, none⟩ = some (.string n) ∧ u.cell? ⟨w.heap.size, 1, none⟩ = some (.int .i64 p) ∧ u.cell? ⟨w.heap.size, 2, none⟩ = some (.int .i64 q) ∧ u.cell? ⟨w.heap.size, 3, none⟩ = some (.slice A m c)) ∧ Below (w.heap.size + 1) (w.alloc (.cells #[.string n, .int .i64 p, .int .i64 q, .slice A m c] 58 (0, 0))) u
set_option maxRecDepth 100000 in
set_option maxHeartbeats 2000000 in
theorem hasA_any (n n' : ByteArray) (p q : Int) (A : Option Addr) (m c : Nat) (p' q' : Int) (A' : Option Addr) (m' c' : Nat) (nb xb : Nat) (w : World) (hx : BxA nb xb n' p' q' A' m' c' w) :
    Calls Try.prog 73 #[.agg #[.string n, .int .i64 p, .int .i64 q, .slice A m c], .pointer (some ⟨nb, 0, none⟩), .pointer (some ⟨xb, 0, none⟩)] w fun e w' => e = .returned (.bool (decide (n = n'))) ∧ Below w.heap.size w w' := by
  obtain ⟨hn1, hx1⟩ := hx.lt
  have HS : Hid (∀ u, Below (w.heap.size + 1) (w.alloc (.cells #[.string n, .int .i64 p, .int .i64 q, .slice A m c] 58 (0, 0))) u → (fun u => SxA w nb xb n' p' q' A' m' c' n p q A m c u) u) := Lib.hid fun u hu =>
    ⟨hx.below (B := w.heap.size) hn1 hx1 (((Below.refl w.heap.size w).alloc (Nat.le_refl _) _).trans (hu.mono (by omega))), ⟨(hu.cell (p := ⟨w.heap.size, 0, none⟩) (by simp)).trans (by simp), (hu.cell (p := ⟨w.heap.size, 1, none⟩) (by simp)).trans (by simp), (hu.cell (p := ⟨w.heap.size, 2, none⟩) (by simp)).trans (by simp), (hu.cell (p := ⟨w.heap.size, 3, none⟩) (by simp)).trans (by simp)⟩, hu⟩
  have HW : Hid (∀ u, Below (w.heap.size + 1) (w.alloc (.cells #[.string n, .int .i64 p, .int .i64 q, .slice A m c] 58 (0, 0))) u → Below w.heap.size w u) := Lib.hid fun u hu => box_below hu
  have HC : Hid (∀ (n2 : ByteArray) (p2 q2 : Int) (A2 : Option Addr) (m2 c2 : Nat) (u : World), (fun u => SxA w nb xb n' p' q' A' m' c' n p q A m c u) u → Calls Try.prog 64 #[.agg #[.string n2, .int .i64 p2, .int .i64 q2, .slice A2 m2 c2]] u fun e w' => e = .returned (.string n2) ∧ (fun u => SxA w nb xb n' p' q' A' m' c' n p q A m c u) w') := Lib.hid fun n2 p2 q2 A2 m2 c2 u hu => by
    refine (cloA_any n2 p2 q2 A2 m2 c2 u).mono ?_
    rintro e w' ⟨rfl, h2⟩
    exact ⟨rfl, HS.out w' (hu.2.2.trans (h2.mono (by have := hu.2.2.size; simpa using this)))⟩
  have HS0 := Lib.hid (HS.out _ (Below.drew (Below.refl (w.heap.size + 1) (w.alloc (.cells #[.string n, .int .i64 p, .int .i64 q, .slice A m c] 58 (0, 0))))))
  have HFIN : Hid (∀ u, (fun u => SxA w nb xb n' p' q' A' m' c' n p q A m c u) u → Below w.heap.size w u) := Lib.hid fun u hu => HW.out u hu.2.2
  have HEQ : Hid (n = n' → decide (n = n') = true) := Lib.hid fun h => decide_eq_true h
  have HNE : Hid (¬ n = n' → decide (n = n') = false) := Lib.hid fun h => decide_eq_false h
  generalize decide (n = n') = R at HEQ HNE ⊢
  clear hx
  by_cases hnn : n = n'
  · have HR := Lib.hid (HEQ.out hnn)
    subst hnn
    clear HEQ HNE
    go_enter Try.func73, Try.ntmps73
    go_wp2_with fail
    go_region_held3 (fun u => SxA w nb xb n p' q' A' m' c' n p q A m c u) (first | assumption | exact HS0.out)
      ((with_reducible refine (HC.out _ _ _ _ _ _ _ (by assumption)).mono ?_; rintro e w2 ⟨rfl, hs2⟩))
    all_goals
      have HB2 := Lib.hid (HFIN.out _ hs2)
      clear hs2
      go_wp2_with fail
      go_ret
      exact ⟨ret_bool HR.out.symm, HB2.out⟩
  · have HR := Lib.hid (HNE.out hnn)
    have t1 := str_ne hnn
    clear HEQ HNE
    go_enter Try.func73, Try.ntmps73
    go_wp2_with fail
    go_region_held3 (fun u => SxA w nb xb n' p' q' A' m' c' n p q A m c u) (first | assumption | exact HS0.out)
      ((with_reducible refine (HC.out _ _ _ _ _ _ _ (by assumption)).mono ?_; rintro e w2 ⟨rfl, hs2⟩))
    all_goals
      have HB2 := Lib.hid (HFIN.out _ hs2)
      clear hs2
      go_wp2_with fail
      go_ret
      exact ⟨ret_bool HR.out.symm, HB2.out⟩

/-- what IndexFunc answers: whether one is found -/
def IdxA (b : Bool) (e : Ending) : Prop := ∃ k : Int, e = .returned (.int .i64 k) ∧ decide (0 ≤ k) = b
set_option maxRecDepth 100000 in
set_option maxHeartbeats 2000000 in
theorem idxA_any (l : List Att) (A : Option Addr) (c B : Nat) (n' : ByteArray) (p' q' : Int) (A' : Option Addr) (m' c' : Nat) (nb xb : Nat) (w : World) (hl : l.length ≤ 1000) (hB : B ≤ w.heap.size) (hL : Atts w B A l) (hx : BxA nb xb n' p' q' A' m' c' w) :
    Calls Try.prog 83 #[.slice A l.length c, .func (.func 73) #[] #[.pointer (some ⟨nb, 0, none⟩), .pointer (some ⟨xb, 0, none⟩)]] w fun e w' => IdxA (l.any fun y => decide (y.nm = n')) e ∧ Below w.heap.size w w' := by
  have HL := Lib.hid hL
  obtain ⟨hn1, hx1⟩ := hx.lt
  have HC : Hid (∀ (n : ByteArray) (p q : Int) (A : Option Addr) (m c : Nat) (u : World), Below w.heap.size w u → Calls Try.prog 73 #[.agg #[.string n, .int .i64 p, .int .i64 q, .slice A m c], .pointer (some ⟨nb, 0, none⟩), .pointer (some ⟨xb, 0, none⟩)] u fun e w' => e = .returned (.bool (decide (n = n'))) ∧ Below u.heap.size u w') :=
    Lib.hid fun n p q A m c u hu => hasA_any n n' p q A m c p' q' A' m' c' nb xb u (hx.below hn1 hx1 hu)
  have HALL : Hid (∀ b, (l.any fun y => decide (y.nm = n')) = b → ∀ k : Int, decide (0 ≤ k) = b → IdxA (l.any fun y => decide (y.nm = n')) (.returned (.int .i64 k))) := Lib.hid fun b h k hk => ⟨k, rfl, by rw [h]; exact hk⟩
  have HYS : Hid (∀ (i : Nat) (hi : i < l.length), decide (l[i].nm = n') = true → (l.any fun y => decide (y.nm = n')) = true) := Lib.hid fun i hi h => List.any_eq_true.2 ⟨l[i], List.getElem_mem hi, h⟩
  have HNS : Hid ((∀ y ∈ l.take l.length, decide (y.nm = n') = false) → (l.any fun y => decide (y.nm = n')) = false) := Lib.hid fun h => any_none (by rwa [List.take_length] at h)
  have HNT : Hid (∀ (i : Nat) (hi : i < l.length), (∀ y ∈ l.take i, decide (y.nm = n') = false) → decide (l[i].nm = n') = false → ∀ y ∈ l.take (i + 1), decide (y.nm = n') = false) := Lib.hid fun i hi h h2 => none_take hi h h2
  generalize (l.any fun y => decide (y.nm = n')) = R at HALL HYS HNS ⊢
  clear hL hx
  go_enter Try.func83, Try.ntmps83
  go_wp2_with fail
  go_loopw [8] (fun vi wr => ∃ i : Nat, i ≤ l.length ∧ vi = .int .i64 i ∧ Below w.heap.size w wr ∧ (∀ y ∈ l.take i, decide (y.nm = n') = false)) (fun vi _ => l.length - (intOf vi).toNat)
  case atStart => exact ⟨0, Nat.zero_le _, rfl, Below.refl _ _, fun x hx => by simp at hx⟩
  case round =>
    obtain ⟨i, hi, rfl, hb, hno⟩ := hrel
    have HB := Lib.hid hb
    by_cases hlt : i < l.length
    · obtain ⟨b1, off, A1, c1, rfl, hbb, k0, k1, k2, k3, _⟩ := Atts.cells ((DReads.mono HL.out hB).below hb) hlt
      have HNO := Lib.hid (HNT.out i hlt hno)
      have HYES := Lib.hid (HYS.out i hlt)
      have q0 : (0 : Int) ≤ (i : Int) := by omega
      have q1 : (i : Int) < (l.length : Int) := by omega
      have q2 : ((i : Int)).toNat = i := by omega
      have t1 : decide ((0 : Int) ≤ (i : Int)) = true := decide_eq_true q0
      have T1 := Lib.hid t1
      generalize l[i] = x at k0 k1 k2 k3 HNO HYES
      have HCI := Lib.hid (HC.out x.nm x.lo x.hi A1 x.ns.length c1 wr hb)
      generalize decide (x.nm = n') = z at HCI HNO HYES
      have hsz := hb.size
      clear hb hno t1
      go_wp2_with fail
      refine HCI.out.mono ?_
      rintro e w2 ⟨rfl, hb2⟩
      have HB2 := Lib.hid (HB.out.trans (hb2.mono hsz))
      clear hb2
      cases z
      case true =>
        have HY := Lib.hid (HALL.out true (HYES.out rfl) i T1.out)
        clear HYES HNO HCI
        go_wp2_with fail
        go_ret
        exact ⟨HY.out, HB2.out⟩
      case false =>
        have HX := Lib.hid (HNO.out rfl)
        clear HYES HNO HCI
        go_wp2_with fail
        go_roundw
        case rel => exact ⟨i + 1, by omega, by go_num, HB2.out, HX.out⟩
        case measure => simp [intOf]; omega
    · have HX := Lib.hid (HALL.out false (HNS.out (by rw [show l.length = i by omega]; exact hno)) (-1) rfl)
      clear hno hb
      go_wp2_with fail
      go_ret
      exact ⟨HX.out, HB.out⟩

set_option maxRecDepth 100000 in
theorem contA_any (l : List Att) (A : Option Addr) (c B : Nat) (n' : ByteArray) (p' q' : Int) (A' : Option Addr) (m' c' : Nat) (nb xb : Nat) (w : World) (hl : l.length ≤ 1000) (hB : B ≤ w.heap.size) (hL : Atts w B A l) (hx : BxA nb xb n' p' q' A' m' c' w) :
    Calls Try.prog 74 #[.slice A l.length c, .func (.func 73) #[] #[.pointer (some ⟨nb, 0, none⟩), .pointer (some ⟨xb, 0, none⟩)]] w fun e w' => e = .returned (.bool (l.any fun y => decide (y.nm = n'))) ∧ Below w.heap.size w w' := by
  have HI := Lib.hid (idxA_any l A c B n' p' q' A' m' c' nb xb w hl hB hL hx)
  generalize (l.any fun y => decide (y.nm = n')) = R at HI ⊢
  clear hL hx
  go_enter Try.func74, Try.ntmps74
  go_wp2_with fail
  refine HI.out.mono ?_
  rintro e w2 ⟨⟨k, rfl, hk⟩, hb⟩
  have HB := Lib.hid hb
  clear hb HI
  cases R
  all_goals
    go_wp2_with fail
    go_ret
    exact ⟨rfl, HB.out⟩

/-- the error of a name behind others -/
theorem bxA_of {w u : World} {n' : ByteArray} {p' q' : Int} {A' : Option Addr} {m' c' : Nat} (h : Below (w.heap.size + 1 + 1) ((w.alloc (.cells #[.string n', .int .i64 p', .int .i64 q', .slice A' m' c'] 58 (0, 0))).alloc (.cells #[.func (.func 64) #[] #[]] 89 (0, 0))) u) : BxA (w.heap.size + 1) w.heap.size n' p' q' A' m' c' u := by
  have cx : ∀ j, u.cell? ⟨w.heap.size, j, none⟩ = (#[.string n', .int .i64 p', .int .i64 q', .slice A' m' c'])[j]? := fun j => (h.cell (p := ⟨w.heap.size, j, none⟩) (by show w.heap.size < _; omega)).trans (cell_of_row _ _ _ _ _ _ (heap_two _ _ _))
  have cn : ∀ j, u.cell? ⟨w.heap.size + 1, j, none⟩ = (#[.func (.func 64) #[] #[]])[j]? := fun j => (h.cell (p := ⟨w.heap.size + 1, j, none⟩) (by show w.heap.size + 1 < _; omega)).trans (cell_of_row _ _ _ _ _ _ (heap_two' _ _ _))
  exact ⟨cn 0, cx 0, cx 1, cx 2, cx 3⟩

set_option maxRecDepth 100000 in
set_option maxHeartbeats 2000000 in
theorem checkA_any (hn : NameC 60) (l : List Att) (A : Option Addr) (c : Nat) (n' : ByteArray) (p' q' : Int) (A' : Option Addr) (m' c' : Nat) (w : World) (hl : l.length ≤ 1000) (hs : n'.size ≤ 40) (hL : Atts w w.heap.size A l) :
    Calls Try.prog 63 #[.slice A l.length c, .agg #[.string n', .int .i64 p', .int .i64 q', .slice A' m' c'], .func (.func 64) #[] #[]] w fun e w' => e = .returned (.int .i64 (chkR n' (l.any fun y => decide (y.nm = n')))) ∧ Below w.heap.size w w' := by
  have HBX : Hid (∀ u, Below (w.heap.size + 1 + 1) ((w.alloc (.cells #[.string n', .int .i64 p', .int .i64 q', .slice A' m' c'] 58 (0, 0))).alloc (.cells #[.func (.func 64) #[] #[]] 89 (0, 0))) u → BxA (w.heap.size + 1) w.heap.size n' p' q' A' m' c' u) := Lib.hid fun u hu => bxA_of hu
  have HBW : Hid (∀ u, Below (w.heap.size + 1 + 1) ((w.alloc (.cells #[.string n', .int .i64 p', .int .i64 q', .slice A' m' c'] 58 (0, 0))).alloc (.cells #[.func (.func 64) #[] #[]] 89 (0, 0))) u → Below w.heap.size w u) := Lib.hid fun u h => (((Below.refl w.heap.size w).alloc (Nat.le_refl _) _).alloc (by simp) _).trans (h.mono (by omega))
  have HCO : Hid (∀ u, Below (w.heap.size + 1 + 1) ((w.alloc (.cells #[.string n', .int .i64 p', .int .i64 q', .slice A' m' c'] 58 (0, 0))).alloc (.cells #[.func (.func 64) #[] #[]] 89 (0, 0))) u → Calls Try.prog 74 #[.slice A l.length c, .func (.func 73) #[] #[.pointer (some ⟨w.heap.size + 1, 0, none⟩), .pointer (some ⟨w.heap.size, 0, none⟩)]] u fun e w' => e = .returned (.bool (l.any fun y => decide (y.nm = n'))) ∧ Below u.heap.size u w') := Lib.hid fun u hu =>
    contA_any l A c w.heap.size n' p' q' A' m' c' (w.heap.size + 1) w.heap.size u hl (HBW.out u hu).size (DReads.below hL (HBW.out u hu)) (HBX.out u hu)
  have HCL := Lib.hid (fun u => cloA_any n' p' q' A' m' c' u)
  have HN := Lib.hid (fun u => hn n' u hs)
  have HX : Hid (∀ b, chkR n' b = if isNm n' = false then 2 else if b = true then 5 else 0) := Lib.hid fun b => rfl
  generalize (l.any fun y => decide (y.nm = n')) = b2 at HCO ⊢
  have HX2 := Lib.hid (HX.out b2)
  clear hL hn hs HX
  generalize chkR n' b2 = R at HX2 ⊢
  generalize isNm n' = z at HN HX2
  go_enter Try.func63, Try.ntmps63
  go_wp2_with fail
  refine (HCL.out _).mono ?_
  rintro e w1 ⟨rfl, hb1⟩
  have HB1 := Lib.hid (below_two hb1)
  have hz1 : w.heap.size + 1 + 1 ≤ w1.heap.size := by have := HB1.out.size; simpa using this
  clear hb1
  obtain ⟨g0, x0, x1, x2, x3⟩ := HBX.out _ HB1.out
  go_wp2_with fail
  refine (HN.out _).mono ?_
  rintro e w2 ⟨rfl, hb2⟩
  have HB2 := Lib.hid (HB1.out.trans (hb2.mono hz1))
  clear hb2
  cases z
  case false =>
    go_wp2_with fail
    go_ret
    exact ⟨ret_int (by rw [HX2.out]; rfl), HBW.out _ HB2.out⟩
  case true =>
    go_wp2_with fail
    refine (HCO.out _ HB2.out).mono ?_
    rintro e w3 ⟨rfl, hb3⟩
    have HB3 := Lib.hid ((HBW.out _ HB2.out).trans (hb3.mono (HBW.out _ HB2.out).size))
    clear hb3
    cases b2
    all_goals
      go_wp2_with fail
      go_ret
      exact ⟨ret_int (by rw [HX2.out]; rfl), HB3.out⟩

theorem cloN_any (n : ByteArray) (p : Int) (b : Bool) (A : Option Addr) (m c : Nat) (w : World) : Calls Try.prog 49 #[.agg #[.string n, .int .i64 p, .bool b, .slice A m c]] w fun e w' => e = .returned (.string n) ∧ Below w.heap.size w w' := by
  have HB0 := Lib.hid (fun (o : Obj) => (Below.refl w.heap.size w).alloc (Nat.le_refl _) o)
  go_enter Try.func49, Try.ntmps49
  go_wp2_with fail
  go_ret
  exact ⟨rfl, HB0.out _⟩

/-- the boxes of a name function and of an element -/
abbrev BxN (nb xb : Nat) (n' : ByteArray) (p' : Int) (b' : Bool) (A' : Option Addr) (m' c' : Nat) (u : World) : Prop := u.cell? ⟨nb, 0, none⟩ = some (.func (.func 49) #[] #[]) ∧ u.cell? ⟨xb, 0, none⟩ = some (.string n') ∧ u.cell? ⟨xb, 1, none⟩ = some (.int .i64 p') ∧ u.cell? ⟨xb, 2, none⟩ = some (.bool b') ∧ u.cell? ⟨xb, 3, none⟩ = some (.slice A' m' c')
theorem BxN.below {nb xb : Nat} {n' : ByteArray} {p' : Int} {b' : Bool} {A' : Option Addr} {m' c' : Nat} {w u : World} {B : Nat} (h : BxN nb xb n' p' b' A' m' c' w) (h1 : nb < B) (h2 : xb < B) (hb : Below B w u) : BxN nb xb n' p' b' A' m' c' u := by
  obtain ⟨g0, x0, x1, x2, x3⟩ := h
  exact ⟨(hb.cell (p := ⟨nb, 0, none⟩) h1).trans g0, (hb.cell (p := ⟨xb, 0, none⟩) h2).trans x0, (hb.cell (p := ⟨xb, 1, none⟩) h2).trans x1, (hb.cell (p := ⟨xb, 2, none⟩) h2).trans x2, (hb.cell (p := ⟨xb, 3, none⟩) h2).trans x3⟩
theorem BxN.lt {nb xb : Nat} {n' : ByteArray} {p' : Int} {b' : Bool} {A' : Option Addr} {m' c' : Nat} {w : World} (h : BxN nb xb n' p' b' A' m' c' w) : nb < w.heap.size ∧ xb < w.heap.size := by
  obtain ⟨g0, x0, _, _, _⟩ := h
  exact ⟨block_lt_of_cell g0, block_lt_of_cell x0⟩

abbrev SxN (w : World) (nb xb : Nat) (n' : ByteArray) (p' : Int) (b' : Bool) (A' : Option Addr) (m' c' : Nat) (n : ByteArray) (p : Int) (b : Bool) (A : Option Addr) (m c : Nat) (u : World) : Prop := BxN nb xb n' p' b' A' m' c' u ∧ (u.cell? ⟨w.heap.size, 0, none⟩ = some (.string n) ∧ u.cell? ⟨w.heap.size, 1, none⟩ = some (.int .i64 p) ∧ u.cell? ⟨w.heap.size, 2, none⟩ = some (.bool b) ∧ u.cell? ⟨w.heap.size, 3, none⟩ = some (.slice A m c)) ∧ Below (w.heap.size + 1) (w.alloc (.cells #[.string n, .int .i64 p, .bool b, .slice A m c] 55 (0, 0))) u
set_option maxRecDepth 100000 in
set_option maxHeartbeats 2000000 in
theorem hasN_any (n n' : ByteArray) (p : Int) (b : Bool) (A : Option Addr) (m c : Nat) (p' : Int) (b' : Bool) (A' : Option Addr) (m' c' : Nat) (nb xb : Nat) (w : World) (hx : BxN nb xb n' p' b' A' m' c' w) :
    Calls Try.prog 59 #[.agg #[.string n, .int .i64 p, .bool b, .slice A m c], .pointer (some ⟨nb, 0, none⟩), .pointer (some ⟨xb, 0, none⟩)] w fun e w' => e = .returned (.bool (decide (n = n'))) ∧ Below w.heap.size w w' := by
  obtain ⟨hn1, hx1⟩ := hx.lt
  have HS : Hid (∀ u, Below (w.heap.size + 1) (w.alloc (.cells #[.string n, .int .i64 p, .bool b, .slice A m c] 55 (0, 0))) u → (fun u => SxN w nb xb n' p' b' A' m' c' n p b A m c u) u) := Lib.hid fun u hu =>
    ⟨hx.below (B := w.heap.size) hn1 hx1 (((Below.refl w.heap.size w).alloc (Nat.le_refl _) _).trans (hu.mono (by omega))), ⟨(hu.cell (p := ⟨w.heap.size, 0, none⟩) (by simp)).trans (by simp), (hu.cell (p := ⟨w.heap.size, 1, none⟩) (by simp)).trans (by simp), (hu.cell (p := ⟨w.heap.size, 2, none⟩) (by simp)).trans (by simp), (hu.cell (p := ⟨w.heap.size, 3, none⟩) (by simp)).trans (by simp)⟩, hu⟩
  have HW : Hid (∀ u, Below (w.heap.size + 1) (w.alloc (.cells #[.string n, .int .i64 p, .bool b, .slice A m c] 55 (0, 0))) u → Below w.heap.size w u) := Lib.hid fun u hu => box_below hu
  have HC : Hid (∀ (n2 : ByteArray) (p2 : Int) (b2 : Bool) (A2 : Option Addr) (m2 c2 : Nat) (u : World), (fun u => SxN w nb xb n' p' b' A' m' c' n p b A m c u) u → Calls Try.prog 49 #[.agg #[.string n2, .int .i64 p2, .bool b2, .slice A2 m2 c2]] u fun e w' => e = .returned (.string n2) ∧ (fun u => SxN w nb xb n' p' b' A' m' c' n p b A m c u) w') := Lib.hid fun n2 p2 b2 A2 m2 c2 u hu => by
    refine (cloN_any n2 p2 b2 A2 m2 c2 u).mono ?_
    rintro e w' ⟨rfl, h2⟩
    exact ⟨rfl, HS.out w' (hu.2.2.trans (h2.mono (by have := hu.2.2.size; simpa using this)))⟩
  have HS0 := Lib.hid (HS.out _ (Below.drew (Below.refl (w.heap.size + 1) (w.alloc (.cells #[.string n, .int .i64 p, .bool b, .slice A m c] 55 (0, 0))))))
  have HFIN : Hid (∀ u, (fun u => SxN w nb xb n' p' b' A' m' c' n p b A m c u) u → Below w.heap.size w u) := Lib.hid fun u hu => HW.out u hu.2.2
  have HEQ : Hid (n = n' → decide (n = n') = true) := Lib.hid fun h => decide_eq_true h
  have HNE : Hid (¬ n = n' → decide (n = n') = false) := Lib.hid fun h => decide_eq_false h
  generalize decide (n = n') = R at HEQ HNE ⊢
  clear hx
  by_cases hnn : n = n'
  · have HR := Lib.hid (HEQ.out hnn)
    subst hnn
    clear HEQ HNE
    go_enter Try.func59, Try.ntmps59
    go_wp2_with fail
    go_region_held3 (fun u => SxN w nb xb n p' b' A' m' c' n p b A m c u) (first | assumption | exact HS0.out)
      ((with_reducible refine (HC.out _ _ _ _ _ _ _ (by assumption)).mono ?_; rintro e w2 ⟨rfl, hs2⟩))
    all_goals
      have HB2 := Lib.hid (HFIN.out _ hs2)
      clear hs2
      go_wp2_with fail
      go_ret
      exact ⟨ret_bool HR.out.symm, HB2.out⟩
  · have HR := Lib.hid (HNE.out hnn)
    have t1 := str_ne hnn
    clear HEQ HNE
    go_enter Try.func59, Try.ntmps59
    go_wp2_with fail
    go_region_held3 (fun u => SxN w nb xb n' p' b' A' m' c' n p b A m c u) (first | assumption | exact HS0.out)
      ((with_reducible refine (HC.out _ _ _ _ _ _ _ (by assumption)).mono ?_; rintro e w2 ⟨rfl, hs2⟩))
    all_goals
      have HB2 := Lib.hid (HFIN.out _ hs2)
      clear hs2
      go_wp2_with fail
      go_ret
      exact ⟨ret_bool HR.out.symm, HB2.out⟩

/-- what IndexFunc answers: whether one is found -/
def IdxN (b : Bool) (e : Ending) : Prop := ∃ k : Int, e = .returned (.int .i64 k) ∧ decide (0 ≤ k) = b
set_option maxRecDepth 100000 in
set_option maxHeartbeats 2000000 in
theorem idxN_any (l : List Nod) (A : Option Addr) (c B : Nat) (n' : ByteArray) (p' : Int) (b' : Bool) (A' : Option Addr) (m' c' : Nat) (nb xb : Nat) (w : World) (hl : l.length ≤ 1000) (hB : B ≤ w.heap.size) (hL : Nods w B A l) (hx : BxN nb xb n' p' b' A' m' c' w) :
    Calls Try.prog 72 #[.slice A l.length c, .func (.func 59) #[] #[.pointer (some ⟨nb, 0, none⟩), .pointer (some ⟨xb, 0, none⟩)]] w fun e w' => IdxN (l.any fun y => decide (y.nm = n')) e ∧ Below w.heap.size w w' := by
  have HL := Lib.hid hL
  obtain ⟨hn1, hx1⟩ := hx.lt
  have HC : Hid (∀ (n : ByteArray) (p : Int) (b : Bool) (A : Option Addr) (m c : Nat) (u : World), Below w.heap.size w u → Calls Try.prog 59 #[.agg #[.string n, .int .i64 p, .bool b, .slice A m c], .pointer (some ⟨nb, 0, none⟩), .pointer (some ⟨xb, 0, none⟩)] u fun e w' => e = .returned (.bool (decide (n = n'))) ∧ Below u.heap.size u w') :=
    Lib.hid fun n p b A m c u hu => hasN_any n n' p b A m c p' b' A' m' c' nb xb u (hx.below hn1 hx1 hu)
  have HALL : Hid (∀ b, (l.any fun y => decide (y.nm = n')) = b → ∀ k : Int, decide (0 ≤ k) = b → IdxN (l.any fun y => decide (y.nm = n')) (.returned (.int .i64 k))) := Lib.hid fun b h k hk => ⟨k, rfl, by rw [h]; exact hk⟩
  have HYS : Hid (∀ (i : Nat) (hi : i < l.length), decide (l[i].nm = n') = true → (l.any fun y => decide (y.nm = n')) = true) := Lib.hid fun i hi h => List.any_eq_true.2 ⟨l[i], List.getElem_mem hi, h⟩
  have HNS : Hid ((∀ y ∈ l.take l.length, decide (y.nm = n') = false) → (l.any fun y => decide (y.nm = n')) = false) := Lib.hid fun h => any_none (by rwa [List.take_length] at h)
  have HNT : Hid (∀ (i : Nat) (hi : i < l.length), (∀ y ∈ l.take i, decide (y.nm = n') = false) → decide (l[i].nm = n') = false → ∀ y ∈ l.take (i + 1), decide (y.nm = n') = false) := Lib.hid fun i hi h h2 => none_take hi h h2
  generalize (l.any fun y => decide (y.nm = n')) = R at HALL HYS HNS ⊢
  clear hL hx
  go_enter Try.func72, Try.ntmps72
  go_wp2_with fail
  go_loopw [8] (fun vi wr => ∃ i : Nat, i ≤ l.length ∧ vi = .int .i64 i ∧ Below w.heap.size w wr ∧ (∀ y ∈ l.take i, decide (y.nm = n') = false)) (fun vi _ => l.length - (intOf vi).toNat)
  case atStart => exact ⟨0, Nat.zero_le _, rfl, Below.refl _ _, fun x hx => by simp at hx⟩
  case round =>
    obtain ⟨i, hi, rfl, hb, hno⟩ := hrel
    have HB := Lib.hid hb
    by_cases hlt : i < l.length
    · obtain ⟨b1, off, A1, c1, rfl, hbb, k0, k1, k2, k3, _⟩ := Nods.cells ((DReads.mono HL.out hB).below hb) hlt
      have HNO := Lib.hid (HNT.out i hlt hno)
      have HYES := Lib.hid (HYS.out i hlt)
      have q0 : (0 : Int) ≤ (i : Int) := by omega
      have q1 : (i : Int) < (l.length : Int) := by omega
      have q2 : ((i : Int)).toNat = i := by omega
      have t1 : decide ((0 : Int) ≤ (i : Int)) = true := decide_eq_true q0
      have T1 := Lib.hid t1
      generalize l[i] = x at k0 k1 k2 k3 HNO HYES
      have HCI := Lib.hid (HC.out x.nm x.par x.ab A1 x.att.length c1 wr hb)
      generalize decide (x.nm = n') = z at HCI HNO HYES
      have hsz := hb.size
      clear hb hno t1
      go_wp2_with fail
      refine HCI.out.mono ?_
      rintro e w2 ⟨rfl, hb2⟩
      have HB2 := Lib.hid (HB.out.trans (hb2.mono hsz))
      clear hb2
      cases z
      case true =>
        have HY := Lib.hid (HALL.out true (HYES.out rfl) i T1.out)
        clear HYES HNO HCI
        go_wp2_with fail
        go_ret
        exact ⟨HY.out, HB2.out⟩
      case false =>
        have HX := Lib.hid (HNO.out rfl)
        clear HYES HNO HCI
        go_wp2_with fail
        go_roundw
        case rel => exact ⟨i + 1, by omega, by go_num, HB2.out, HX.out⟩
        case measure => simp [intOf]; omega
    · have HX := Lib.hid (HALL.out false (HNS.out (by rw [show l.length = i by omega]; exact hno)) (-1) rfl)
      clear hno hb
      go_wp2_with fail
      go_ret
      exact ⟨HX.out, HB.out⟩

set_option maxRecDepth 100000 in
theorem contN_any (l : List Nod) (A : Option Addr) (c B : Nat) (n' : ByteArray) (p' : Int) (b' : Bool) (A' : Option Addr) (m' c' : Nat) (nb xb : Nat) (w : World) (hl : l.length ≤ 1000) (hB : B ≤ w.heap.size) (hL : Nods w B A l) (hx : BxN nb xb n' p' b' A' m' c' w) :
    Calls Try.prog 61 #[.slice A l.length c, .func (.func 59) #[] #[.pointer (some ⟨nb, 0, none⟩), .pointer (some ⟨xb, 0, none⟩)]] w fun e w' => e = .returned (.bool (l.any fun y => decide (y.nm = n'))) ∧ Below w.heap.size w w' := by
  have HI := Lib.hid (idxN_any l A c B n' p' b' A' m' c' nb xb w hl hB hL hx)
  generalize (l.any fun y => decide (y.nm = n')) = R at HI ⊢
  clear hL hx
  go_enter Try.func61, Try.ntmps61
  go_wp2_with fail
  refine HI.out.mono ?_
  rintro e w2 ⟨⟨k, rfl, hk⟩, hb⟩
  have HB := Lib.hid hb
  clear hb HI
  cases R
  all_goals
    go_wp2_with fail
    go_ret
    exact ⟨rfl, HB.out⟩

/-- the error of a name behind others -/
theorem bxN_of {w u : World} {n' : ByteArray} {p' : Int} {b' : Bool} {A' : Option Addr} {m' c' : Nat} (h : Below (w.heap.size + 1 + 1) ((w.alloc (.cells #[.string n', .int .i64 p', .bool b', .slice A' m' c'] 55 (0, 0))).alloc (.cells #[.func (.func 49) #[] #[]] 76 (0, 0))) u) : BxN (w.heap.size + 1) w.heap.size n' p' b' A' m' c' u := by
  have cx : ∀ j, u.cell? ⟨w.heap.size, j, none⟩ = (#[.string n', .int .i64 p', .bool b', .slice A' m' c'])[j]? := fun j => (h.cell (p := ⟨w.heap.size, j, none⟩) (by show w.heap.size < _; omega)).trans (cell_of_row _ _ _ _ _ _ (heap_two _ _ _))
  have cn : ∀ j, u.cell? ⟨w.heap.size + 1, j, none⟩ = (#[.func (.func 49) #[] #[]])[j]? := fun j => (h.cell (p := ⟨w.heap.size + 1, j, none⟩) (by show w.heap.size + 1 < _; omega)).trans (cell_of_row _ _ _ _ _ _ (heap_two' _ _ _))
  exact ⟨cn 0, cx 0, cx 1, cx 2, cx 3⟩

set_option maxRecDepth 100000 in
set_option maxHeartbeats 2000000 in
theorem checkN_any (hn : NameC 60) (l : List Nod) (A : Option Addr) (c : Nat) (n' : ByteArray) (p' : Int) (b' : Bool) (A' : Option Addr) (m' c' : Nat) (w : World) (hl : l.length ≤ 1000) (hs : n'.size ≤ 40) (hL : Nods w w.heap.size A l) :
    Calls Try.prog 48 #[.slice A l.length c, .agg #[.string n', .int .i64 p', .bool b', .slice A' m' c'], .func (.func 49) #[] #[]] w fun e w' => e = .returned (.int .i64 (chkR n' (l.any fun y => decide (y.nm = n')))) ∧ Below w.heap.size w w' := by
  have HBX : Hid (∀ u, Below (w.heap.size + 1 + 1) ((w.alloc (.cells #[.string n', .int .i64 p', .bool b', .slice A' m' c'] 55 (0, 0))).alloc (.cells #[.func (.func 49) #[] #[]] 76 (0, 0))) u → BxN (w.heap.size + 1) w.heap.size n' p' b' A' m' c' u) := Lib.hid fun u hu => bxN_of hu
  have HBW : Hid (∀ u, Below (w.heap.size + 1 + 1) ((w.alloc (.cells #[.string n', .int .i64 p', .bool b', .slice A' m' c'] 55 (0, 0))).alloc (.cells #[.func (.func 49) #[] #[]] 76 (0, 0))) u → Below w.heap.size w u) := Lib.hid fun u h => (((Below.refl w.heap.size w).alloc (Nat.le_refl _) _).alloc (by simp) _).trans (h.mono (by omega))
  have HCO : Hid (∀ u, Below (w.heap.size + 1 + 1) ((w.alloc (.cells #[.string n', .int .i64 p', .bool b', .slice A' m' c'] 55 (0, 0))).alloc (.cells #[.func (.func 49) #[] #[]] 76 (0, 0))) u → Calls Try.prog 61 #[.slice A l.length c, .func (.func 59) #[] #[.pointer (some ⟨w.heap.size + 1, 0, none⟩), .pointer (some ⟨w.heap.size, 0, none⟩)]] u fun e w' => e = .returned (.bool (l.any fun y => decide (y.nm = n'))) ∧ Below u.heap.size u w') := Lib.hid fun u hu =>
    contN_any l A c w.heap.size n' p' b' A' m' c' (w.heap.size + 1) w.heap.size u hl (HBW.out u hu).size (DReads.below hL (HBW.out u hu)) (HBX.out u hu)
  have HCL := Lib.hid (fun u => cloN_any n' p' b' A' m' c' u)
  have HN := Lib.hid (fun u => hn n' u hs)
  have HX : Hid (∀ b, chkR n' b = if isNm n' = false then 2 else if b = true then 5 else 0) := Lib.hid fun b => rfl
  generalize (l.any fun y => decide (y.nm = n')) = b2 at HCO ⊢
  have HX2 := Lib.hid (HX.out b2)
  clear hL hn hs HX
  generalize chkR n' b2 = R at HX2 ⊢
  generalize isNm n' = z at HN HX2
  go_enter Try.func48, Try.ntmps48
  go_wp2_with fail
  refine (HCL.out _).mono ?_
  rintro e w1 ⟨rfl, hb1⟩
  have HB1 := Lib.hid (below_two hb1)
  have hz1 : w.heap.size + 1 + 1 ≤ w1.heap.size := by have := HB1.out.size; simpa using this
  clear hb1
  obtain ⟨g0, x0, x1, x2, x3⟩ := HBX.out _ HB1.out
  go_wp2_with fail
  refine (HN.out _).mono ?_
  rintro e w2 ⟨rfl, hb2⟩
  have HB2 := Lib.hid (HB1.out.trans (hb2.mono hz1))
  clear hb2
  cases z
  case false =>
    go_wp2_with fail
    go_ret
    exact ⟨ret_int (by rw [HX2.out]; rfl), HBW.out _ HB2.out⟩
  case true =>
    go_wp2_with fail
    refine (HCO.out _ HB2.out).mono ?_
    rintro e w3 ⟨rfl, hb3⟩
    have HB3 := Lib.hid ((HBW.out _ HB2.out).trans (hb3.mono (HBW.out _ HB2.out).size))
    clear hb3
    cases b2
    all_goals
      go_wp2_with fail
      go_ret
      exact ⟨ret_int (by rw [HX2.out]; rfl), HB3.out⟩

theorem cloE_any (n : ByteArray) (p1 p2 p3 p4 p5 p6 : Int) (w : World) : Calls Try.prog 53 #[.agg #[.string n, .int .i64 p1, .int .i64 p2, .int .i64 p3, .int .i64 p4, .int .i64 p5, .int .i64 p6]] w fun e w' => e = .returned (.string n) ∧ Below w.heap.size w w' := by
  have HB0 := Lib.hid (fun (o : Obj) => (Below.refl w.heap.size w).alloc (Nat.le_refl _) o)
  go_enter Try.func53, Try.ntmps53
  go_wp2_with fail
  go_ret
  exact ⟨rfl, HB0.out _⟩

/-- the boxes of a name function and of an element -/
abbrev BxE (nb xb : Nat) (n' : ByteArray) (p1' p2' p3' p4' p5' p6' : Int) (u : World) : Prop := u.cell? ⟨nb, 0, none⟩ = some (.func (.func 53) #[] #[]) ∧ u.cell? ⟨xb, 0, none⟩ = some (.string n') ∧ u.cell? ⟨xb, 1, none⟩ = some (.int .i64 p1') ∧ u.cell? ⟨xb, 2, none⟩ = some (.int .i64 p2') ∧ u.cell? ⟨xb, 3, none⟩ = some (.int .i64 p3') ∧ u.cell? ⟨xb, 4, none⟩ = some (.int .i64 p4') ∧ u.cell? ⟨xb, 5, none⟩ = some (.int .i64 p5') ∧ u.cell? ⟨xb, 6, none⟩ = some (.int .i64 p6')
theorem BxE.below {nb xb : Nat} {n' : ByteArray} {p1' p2' p3' p4' p5' p6' : Int} {w u : World} {B : Nat} (h : BxE nb xb n' p1' p2' p3' p4' p5' p6' w) (h1 : nb < B) (h2 : xb < B) (hb : Below B w u) : BxE nb xb n' p1' p2' p3' p4' p5' p6' u := by
  obtain ⟨g0, x0, x1, x2, x3, x4, x5, x6⟩ := h
  exact ⟨(hb.cell (p := ⟨nb, 0, none⟩) h1).trans g0, (hb.cell (p := ⟨xb, 0, none⟩) h2).trans x0, (hb.cell (p := ⟨xb, 1, none⟩) h2).trans x1, (hb.cell (p := ⟨xb, 2, none⟩) h2).trans x2, (hb.cell (p := ⟨xb, 3, none⟩) h2).trans x3, (hb.cell (p := ⟨xb, 4, none⟩) h2).trans x4, (hb.cell (p := ⟨xb, 5, none⟩) h2).trans x5, (hb.cell (p := ⟨xb, 6, none⟩) h2).trans x6⟩
theorem BxE.lt {nb xb : Nat} {n' : ByteArray} {p1' p2' p3' p4' p5' p6' : Int} {w : World} (h : BxE nb xb n' p1' p2' p3' p4' p5' p6' w) : nb < w.heap.size ∧ xb < w.heap.size := by
  obtain ⟨g0, x0, _, _, _, _, _, _⟩ := h
  exact ⟨block_lt_of_cell g0, block_lt_of_cell x0⟩

abbrev SxE (w : World) (nb xb : Nat) (n' : ByteArray) (p1' p2' p3' p4' p5' p6' : Int) (n : ByteArray) (p1 p2 p3 p4 p5 p6 : Int) (u : World) : Prop := BxE nb xb n' p1' p2' p3' p4' p5' p6' u ∧ (u.cell? ⟨w.heap.size, 0, none⟩ = some (.string n) ∧ u.cell? ⟨w.heap.size, 1, none⟩ = some (.int .i64 p1) ∧ u.cell? ⟨w.heap.size, 2, none⟩ = some (.int .i64 p2) ∧ u.cell? ⟨w.heap.size, 3, none⟩ = some (.int .i64 p3) ∧ u.cell? ⟨w.heap.size, 4, none⟩ = some (.int .i64 p4) ∧ u.cell? ⟨w.heap.size, 5, none⟩ = some (.int .i64 p5) ∧ u.cell? ⟨w.heap.size, 6, none⟩ = some (.int .i64 p6)) ∧ Below (w.heap.size + 1) (w.alloc (.cells #[.string n, .int .i64 p1, .int .i64 p2, .int .i64 p3, .int .i64 p4, .int .i64 p5, .int .i64 p6] 60 (0, 0))) u
set_option maxRecDepth 100000 in
set_option maxHeartbeats 2000000 in
theorem hasE_any (n n' : ByteArray) (p1 p2 p3 p4 p5 p6 : Int) (p1' p2' p3' p4' p5' p6' : Int) (nb xb : Nat) (w : World) (hx : BxE nb xb n' p1' p2' p3' p4' p5' p6' w) :
    Calls Try.prog 67 #[.agg #[.string n, .int .i64 p1, .int .i64 p2, .int .i64 p3, .int .i64 p4, .int .i64 p5, .int .i64 p6], .pointer (some ⟨nb, 0, none⟩), .pointer (some ⟨xb, 0, none⟩)] w fun e w' => e = .returned (.bool (decide (n = n'))) ∧ Below w.heap.size w w' := by
  obtain ⟨hn1, hx1⟩ := hx.lt
  have HS : Hid (∀ u, Below (w.heap.size + 1) (w.alloc (.cells #[.string n, .int .i64 p1, .int .i64 p2, .int .i64 p3, .int .i64 p4, .int .i64 p5, .int .i64 p6] 60 (0, 0))) u → (fun u => SxE w nb xb n' p1' p2' p3' p4' p5' p6' n p1 p2 p3 p4 p5 p6 u) u) := Lib.hid fun u hu =>
    ⟨hx.below (B := w.heap.size) hn1 hx1 (((Below.refl w.heap.size w).alloc (Nat.le_refl _) _).trans (hu.mono (by omega))), ⟨(hu.cell (p := ⟨w.heap.size, 0, none⟩) (by simp)).trans (by simp), (hu.cell (p := ⟨w.heap.size, 1, none⟩) (by simp)).trans (by simp), (hu.cell (p := ⟨w.heap.size, 2, none⟩) (by simp)).trans (by simp), (hu.cell (p := ⟨w.heap.size, 3, none⟩) (by simp)).trans (by simp), (hu.cell (p := ⟨w.heap.size, 4, none⟩) (by simp)).trans (by simp), (hu.cell (p := ⟨w.heap.size, 5, none⟩) (by simp)).trans (by simp), (hu.cell (p := ⟨w.heap.size, 6, none⟩) (by simp)).trans (by simp)⟩, hu⟩
  have HW : Hid (∀ u, Below (w.heap.size + 1) (w.alloc (.cells #[.string n, .int .i64 p1, .int .i64 p2, .int .i64 p3, .int .i64 p4, .int .i64 p5, .int .i64 p6] 60 (0, 0))) u → Below w.heap.size w u) := Lib.hid fun u hu => box_below hu
  have HC : Hid (∀ (n2 : ByteArray) (p12 p22 p32 p42 p52 p62 : Int) (u : World), (fun u => SxE w nb xb n' p1' p2' p3' p4' p5' p6' n p1 p2 p3 p4 p5 p6 u) u → Calls Try.prog 53 #[.agg #[.string n2, .int .i64 p12, .int .i64 p22, .int .i64 p32, .int .i64 p42, .int .i64 p52, .int .i64 p62]] u fun e w' => e = .returned (.string n2) ∧ (fun u => SxE w nb xb n' p1' p2' p3' p4' p5' p6' n p1 p2 p3 p4 p5 p6 u) w') := Lib.hid fun n2 p12 p22 p32 p42 p52 p62 u hu => by
    refine (cloE_any n2 p12 p22 p32 p42 p52 p62 u).mono ?_
    rintro e w' ⟨rfl, h2⟩
    exact ⟨rfl, HS.out w' (hu.2.2.trans (h2.mono (by have := hu.2.2.size; simpa using this)))⟩
  have HS0 := Lib.hid (HS.out _ (Below.drew (Below.refl (w.heap.size + 1) (w.alloc (.cells #[.string n, .int .i64 p1, .int .i64 p2, .int .i64 p3, .int .i64 p4, .int .i64 p5, .int .i64 p6] 60 (0, 0))))))
  have HFIN : Hid (∀ u, (fun u => SxE w nb xb n' p1' p2' p3' p4' p5' p6' n p1 p2 p3 p4 p5 p6 u) u → Below w.heap.size w u) := Lib.hid fun u hu => HW.out u hu.2.2
  have HEQ : Hid (n = n' → decide (n = n') = true) := Lib.hid fun h => decide_eq_true h
  have HNE : Hid (¬ n = n' → decide (n = n') = false) := Lib.hid fun h => decide_eq_false h
  generalize decide (n = n') = R at HEQ HNE ⊢
  clear hx
  by_cases hnn : n = n'
  · have HR := Lib.hid (HEQ.out hnn)
    subst hnn
    clear HEQ HNE
    go_enter Try.func67, Try.ntmps67
    go_wp2_with fail
    go_region_held3 (fun u => SxE w nb xb n p1' p2' p3' p4' p5' p6' n p1 p2 p3 p4 p5 p6 u) (first | assumption | exact HS0.out)
      ((with_reducible refine (HC.out _ _ _ _ _ _ _ _ (by assumption)).mono ?_; rintro e w2 ⟨rfl, hs2⟩))
    all_goals
      have HB2 := Lib.hid (HFIN.out _ hs2)
      clear hs2
      go_wp2_with fail
      go_ret
      exact ⟨ret_bool HR.out.symm, HB2.out⟩
  · have HR := Lib.hid (HNE.out hnn)
    have t1 := str_ne hnn
    clear HEQ HNE
    go_enter Try.func67, Try.ntmps67
    go_wp2_with fail
    go_region_held3 (fun u => SxE w nb xb n' p1' p2' p3' p4' p5' p6' n p1 p2 p3 p4 p5 p6 u) (first | assumption | exact HS0.out)
      ((with_reducible refine (HC.out _ _ _ _ _ _ _ _ (by assumption)).mono ?_; rintro e w2 ⟨rfl, hs2⟩))
    all_goals
      have HB2 := Lib.hid (HFIN.out _ hs2)
      clear hs2
      go_wp2_with fail
      go_ret
      exact ⟨ret_bool HR.out.symm, HB2.out⟩

/-- what IndexFunc answers: whether one is found -/
def IdxE (b : Bool) (e : Ending) : Prop := ∃ k : Int, e = .returned (.int .i64 k) ∧ decide (0 ≤ k) = b
set_option maxRecDepth 100000 in
set_option maxHeartbeats 2000000 in
theorem idxE_any (l : List Edg) (A : Option Addr) (c B : Nat) (n' : ByteArray) (p1' p2' p3' p4' p5' p6' : Int) (nb xb : Nat) (w : World) (hl : l.length ≤ 1000) (hB : B ≤ w.heap.size) (hL : Edgs w B A l) (hx : BxE nb xb n' p1' p2' p3' p4' p5' p6' w) :
    Calls Try.prog 77 #[.slice A l.length c, .func (.func 67) #[] #[.pointer (some ⟨nb, 0, none⟩), .pointer (some ⟨xb, 0, none⟩)]] w fun e w' => IdxE (l.any fun y => decide (y.nm = n')) e ∧ Below w.heap.size w w' := by
  have HL := Lib.hid hL
  obtain ⟨hn1, hx1⟩ := hx.lt
  have HC : Hid (∀ (n : ByteArray) (p1 p2 p3 p4 p5 p6 : Int) (u : World), Below w.heap.size w u → Calls Try.prog 67 #[.agg #[.string n, .int .i64 p1, .int .i64 p2, .int .i64 p3, .int .i64 p4, .int .i64 p5, .int .i64 p6], .pointer (some ⟨nb, 0, none⟩), .pointer (some ⟨xb, 0, none⟩)] u fun e w' => e = .returned (.bool (decide (n = n'))) ∧ Below u.heap.size u w') :=
    Lib.hid fun n p1 p2 p3 p4 p5 p6 u hu => hasE_any n n' p1 p2 p3 p4 p5 p6 p1' p2' p3' p4' p5' p6' nb xb u (hx.below hn1 hx1 hu)
  have HALL : Hid (∀ b, (l.any fun y => decide (y.nm = n')) = b → ∀ k : Int, decide (0 ≤ k) = b → IdxE (l.any fun y => decide (y.nm = n')) (.returned (.int .i64 k))) := Lib.hid fun b h k hk => ⟨k, rfl, by rw [h]; exact hk⟩
  have HYS : Hid (∀ (i : Nat) (hi : i < l.length), decide (l[i].nm = n') = true → (l.any fun y => decide (y.nm = n')) = true) := Lib.hid fun i hi h => List.any_eq_true.2 ⟨l[i], List.getElem_mem hi, h⟩
  have HNS : Hid ((∀ y ∈ l.take l.length, decide (y.nm = n') = false) → (l.any fun y => decide (y.nm = n')) = false) := Lib.hid fun h => any_none (by rwa [List.take_length] at h)
  have HNT : Hid (∀ (i : Nat) (hi : i < l.length), (∀ y ∈ l.take i, decide (y.nm = n') = false) → decide (l[i].nm = n') = false → ∀ y ∈ l.take (i + 1), decide (y.nm = n') = false) := Lib.hid fun i hi h h2 => none_take hi h h2
  generalize (l.any fun y => decide (y.nm = n')) = R at HALL HYS HNS ⊢
  clear hL hx
  go_enter Try.func77, Try.ntmps77
  go_wp2_with fail
  go_loopw [8] (fun vi wr => ∃ i : Nat, i ≤ l.length ∧ vi = .int .i64 i ∧ Below w.heap.size w wr ∧ (∀ y ∈ l.take i, decide (y.nm = n') = false)) (fun vi _ => l.length - (intOf vi).toNat)
  case atStart => exact ⟨0, Nat.zero_le _, rfl, Below.refl _ _, fun x hx => by simp at hx⟩
  case round =>
    obtain ⟨i, hi, rfl, hb, hno⟩ := hrel
    have HB := Lib.hid hb
    by_cases hlt : i < l.length
    · obtain ⟨b1, off, rfl, hbb, k0, k1, k2, k3, k4, k5, k6⟩ := Edgs.cells ((Reads.mono HL.out hB).below hb) hlt
      have HNO := Lib.hid (HNT.out i hlt hno)
      have HYES := Lib.hid (HYS.out i hlt)
      have q0 : (0 : Int) ≤ (i : Int) := by omega
      have q1 : (i : Int) < (l.length : Int) := by omega
      have q2 : ((i : Int)).toNat = i := by omega
      have t1 : decide ((0 : Int) ≤ (i : Int)) = true := decide_eq_true q0
      have T1 := Lib.hid t1
      generalize l[i] = x at k0 k1 k2 k3 k4 k5 k6 HNO HYES
      have HCI := Lib.hid (HC.out x.nm x.fr x.to x.ol x.oh x.il x.ih wr hb)
      generalize decide (x.nm = n') = z at HCI HNO HYES
      have hsz := hb.size
      clear hb hno t1
      go_wp2_with fail
      refine HCI.out.mono ?_
      rintro e w2 ⟨rfl, hb2⟩
      have HB2 := Lib.hid (HB.out.trans (hb2.mono hsz))
      clear hb2
      cases z
      case true =>
        have HY := Lib.hid (HALL.out true (HYES.out rfl) i T1.out)
        clear HYES HNO HCI
        go_wp2_with fail
        go_ret
        exact ⟨HY.out, HB2.out⟩
      case false =>
        have HX := Lib.hid (HNO.out rfl)
        clear HYES HNO HCI
        go_wp2_with fail
        go_roundw
        case rel => exact ⟨i + 1, by omega, by go_num, HB2.out, HX.out⟩
        case measure => simp [intOf]; omega
    · have HX := Lib.hid (HALL.out false (HNS.out (by rw [show l.length = i by omega]; exact hno)) (-1) rfl)
      clear hno hb
      go_wp2_with fail
      go_ret
      exact ⟨HX.out, HB.out⟩

set_option maxRecDepth 100000 in
theorem contE_any (l : List Edg) (A : Option Addr) (c B : Nat) (n' : ByteArray) (p1' p2' p3' p4' p5' p6' : Int) (nb xb : Nat) (w : World) (hl : l.length ≤ 1000) (hB : B ≤ w.heap.size) (hL : Edgs w B A l) (hx : BxE nb xb n' p1' p2' p3' p4' p5' p6' w) :
    Calls Try.prog 68 #[.slice A l.length c, .func (.func 67) #[] #[.pointer (some ⟨nb, 0, none⟩), .pointer (some ⟨xb, 0, none⟩)]] w fun e w' => e = .returned (.bool (l.any fun y => decide (y.nm = n'))) ∧ Below w.heap.size w w' := by
  have HI := Lib.hid (idxE_any l A c B n' p1' p2' p3' p4' p5' p6' nb xb w hl hB hL hx)
  generalize (l.any fun y => decide (y.nm = n')) = R at HI ⊢
  clear hL hx
  go_enter Try.func68, Try.ntmps68
  go_wp2_with fail
  refine HI.out.mono ?_
  rintro e w2 ⟨⟨k, rfl, hk⟩, hb⟩
  have HB := Lib.hid hb
  clear hb HI
  cases R
  all_goals
    go_wp2_with fail
    go_ret
    exact ⟨rfl, HB.out⟩

/-- the error of a name behind others -/
theorem bxE_of {w u : World} {n' : ByteArray} {p1' p2' p3' p4' p5' p6' : Int} (h : Below (w.heap.size + 1 + 1) ((w.alloc (.cells #[.string n', .int .i64 p1', .int .i64 p2', .int .i64 p3', .int .i64 p4', .int .i64 p5', .int .i64 p6'] 60 (0, 0))).alloc (.cells #[.func (.func 53) #[] #[]] 80 (0, 0))) u) : BxE (w.heap.size + 1) w.heap.size n' p1' p2' p3' p4' p5' p6' u := by
  have cx : ∀ j, u.cell? ⟨w.heap.size, j, none⟩ = (#[.string n', .int .i64 p1', .int .i64 p2', .int .i64 p3', .int .i64 p4', .int .i64 p5', .int .i64 p6'])[j]? := fun j => (h.cell (p := ⟨w.heap.size, j, none⟩) (by show w.heap.size < _; omega)).trans (cell_of_row _ _ _ _ _ _ (heap_two _ _ _))
  have cn : ∀ j, u.cell? ⟨w.heap.size + 1, j, none⟩ = (#[.func (.func 53) #[] #[]])[j]? := fun j => (h.cell (p := ⟨w.heap.size + 1, j, none⟩) (by show w.heap.size + 1 < _; omega)).trans (cell_of_row _ _ _ _ _ _ (heap_two' _ _ _))
  exact ⟨cn 0, cx 0, cx 1, cx 2, cx 3, cx 4, cx 5, cx 6⟩

set_option maxRecDepth 100000 in
set_option maxHeartbeats 2000000 in
theorem checkE_any (hn : NameC 60) (l : List Edg) (A : Option Addr) (c : Nat) (n' : ByteArray) (p1' p2' p3' p4' p5' p6' : Int) (w : World) (hl : l.length ≤ 1000) (hs : n'.size ≤ 40) (hL : Edgs w w.heap.size A l) :
    Calls Try.prog 52 #[.slice A l.length c, .agg #[.string n', .int .i64 p1', .int .i64 p2', .int .i64 p3', .int .i64 p4', .int .i64 p5', .int .i64 p6'], .func (.func 53) #[] #[]] w fun e w' => e = .returned (.int .i64 (chkR n' (l.any fun y => decide (y.nm = n')))) ∧ Below w.heap.size w w' := by
  have HBX : Hid (∀ u, Below (w.heap.size + 1 + 1) ((w.alloc (.cells #[.string n', .int .i64 p1', .int .i64 p2', .int .i64 p3', .int .i64 p4', .int .i64 p5', .int .i64 p6'] 60 (0, 0))).alloc (.cells #[.func (.func 53) #[] #[]] 80 (0, 0))) u → BxE (w.heap.size + 1) w.heap.size n' p1' p2' p3' p4' p5' p6' u) := Lib.hid fun u hu => bxE_of hu
  have HBW : Hid (∀ u, Below (w.heap.size + 1 + 1) ((w.alloc (.cells #[.string n', .int .i64 p1', .int .i64 p2', .int .i64 p3', .int .i64 p4', .int .i64 p5', .int .i64 p6'] 60 (0, 0))).alloc (.cells #[.func (.func 53) #[] #[]] 80 (0, 0))) u → Below w.heap.size w u) := Lib.hid fun u h => (((Below.refl w.heap.size w).alloc (Nat.le_refl _) _).alloc (by simp) _).trans (h.mono (by omega))
  have HCO : Hid (∀ u, Below (w.heap.size + 1 + 1) ((w.alloc (.cells #[.string n', .int .i64 p1', .int .i64 p2', .int .i64 p3', .int .i64 p4', .int .i64 p5', .int .i64 p6'] 60 (0, 0))).alloc (.cells #[.func (.func 53) #[] #[]] 80 (0, 0))) u → Calls Try.prog 68 #[.slice A l.length c, .func (.func 67) #[] #[.pointer (some ⟨w.heap.size + 1, 0, none⟩), .pointer (some ⟨w.heap.size, 0, none⟩)]] u fun e w' => e = .returned (.bool (l.any fun y => decide (y.nm = n'))) ∧ Below u.heap.size u w') := Lib.hid fun u hu =>
    contE_any l A c w.heap.size n' p1' p2' p3' p4' p5' p6' (w.heap.size + 1) w.heap.size u hl (HBW.out u hu).size (Reads.below hL (HBW.out u hu)) (HBX.out u hu)
  have HCL := Lib.hid (fun u => cloE_any n' p1' p2' p3' p4' p5' p6' u)
  have HN := Lib.hid (fun u => hn n' u hs)
  have HX : Hid (∀ b, chkR n' b = if isNm n' = false then 2 else if b = true then 5 else 0) := Lib.hid fun b => rfl
  generalize (l.any fun y => decide (y.nm = n')) = b2 at HCO ⊢
  have HX2 := Lib.hid (HX.out b2)
  clear hL hn hs HX
  generalize chkR n' b2 = R at HX2 ⊢
  generalize isNm n' = z at HN HX2
  go_enter Try.func52, Try.ntmps52
  go_wp2_with fail
  refine (HCL.out _).mono ?_
  rintro e w1 ⟨rfl, hb1⟩
  have HB1 := Lib.hid (below_two hb1)
  have hz1 : w.heap.size + 1 + 1 ≤ w1.heap.size := by have := HB1.out.size; simpa using this
  clear hb1
  obtain ⟨g0, x0, x1, x2, x3, x4, x5, x6⟩ := HBX.out _ HB1.out
  go_wp2_with fail
  refine (HN.out _).mono ?_
  rintro e w2 ⟨rfl, hb2⟩
  have HB2 := Lib.hid (HB1.out.trans (hb2.mono hz1))
  clear hb2
  cases z
  case false =>
    go_wp2_with fail
    go_ret
    exact ⟨ret_int (by rw [HX2.out]; rfl), HBW.out _ HB2.out⟩
  case true =>
    go_wp2_with fail
    refine (HCO.out _ HB2.out).mono ?_
    rintro e w3 ⟨rfl, hb3⟩
    have HB3 := Lib.hid ((HBW.out _ HB2.out).trans (hb3.mono (HBW.out _ HB2.out).size))
    clear hb3
    cases b2
    all_goals
      go_wp2_with fail
      go_ret
      exact ⟨ret_int (by rw [HX2.out]; rfl), HB3.out⟩

end Go.Proofs.Ytgpcaofikmdpjaa
