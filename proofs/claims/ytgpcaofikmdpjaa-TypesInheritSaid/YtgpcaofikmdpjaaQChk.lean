/-
  Types, the program: check.
-/
import Derived.Test.YtgpcaofikmdpjaaQVal
namespace Go.Proofs.Ytgpcaofikmdpjaa
open Go.RowKit

/-- the error of a type graph, or 6 if it does not have all of some node types -/
def chkG (t : Typ) (L : List Int) : Nat := if (validR t).1 ≠ 0 then (validR t).1 else if L.all (fun a => inB a 0 ((t.nodes.length : Int) - 1)) then 0 else 6
theorem chkG_one (t : Typ) (a : Int) : chkG t [a] = givenE t a a := by simp [chkG, givenE]
theorem chkG_two (t : Typ) (a b : Int) : chkG t [a, b] = givenE t a b := by simp [chkG, givenE]

set_option maxRecDepth 100000 in
set_option maxHeartbeats 2000000 in
theorem check_any (hn : NameC 60) (t : Typ) (An : Option Addr) (cn : Nat) (Ae : Option Addr) (ce : Nat) (L : List Int) (g c n : Nat) (w : World) (hf : FewT t) (hcap : CapT t cn ce) (hT : TyC w An Ae t) (hl : n = L.length) (h2 : n ≤ 2) (hL : Ints w w.heap.size (some ⟨g, 0, none⟩) L) :
    Calls Try.prog 37 #[tyval An t.nodes.length cn Ae t.edges.length ce, .slice (some ⟨g, 0, none⟩) n c] w fun e w' => e = .returned (.int .i64 (chkG t L)) ∧ Below w.heap.size w w' := by
  have HV := Lib.hid (fun u hu => validP_any hn t An cn Ae ce u hf hcap hu)
  have HT := Lib.hid hT
  have HL := Lib.hid hL
  have HLN := Lib.hid hl
  have hn20 := hf.nodes
  have HX : Hid (chkG t L = if (validR t).1 ≠ 0 then (validR t).1 else if L.all (fun a => inB a 0 ((t.nodes.length : Int) - 1)) then 0 else 6) := Lib.hid rfl
  clear hT hn hf hL hl
  generalize chkG t L = R at HX ⊢
  generalize validR t = r at HV HX
  obtain ⟨e1, s1⟩ := r
  dsimp only at HV HX
  generalize hN : t.nodes.length = N at *
  generalize t.edges.length = M at *
  clear hN
  go_enter Try.func37, Try.ntmps37
  go_wp2_with fail
  refine (HV.out _ (HT.out.up ((Below.refl _ _).alloc (Nat.le_refl _) _))).mono ?_
  rintro e w1 ⟨rfl, hb1⟩
  have hb1' := below_one' hb1
  obtain ⟨c0, c1⟩ := box_cell hb1'
  have HB1 := Lib.hid hb1'
  clear hb1 hb1'
  by_cases he : e1 = 0
  case neg =>
    have HR : Hid (R = e1) := Lib.hid (by rw [HX.out, if_pos he])
    have t3 : ((e1 : Int) != 0) = true := by simp; omega
    clear HX he
    go_wp2_with fail
    go_ret
    exact ⟨ret_int (by rw [HR.out]), box_below HB1.out⟩
  have HX2 : Hid (R = if L.all (fun a => inB a 0 ((N : Int) - 1)) then 0 else 6) := Lib.hid (by rw [HX.out, if_neg (fun h => h he)])
  subst he
  clear HX HV
  go_wp2_with fail
  go_loopw [19] (fun vi wr => ∃ i : Nat, i ≤ n ∧ vi = .int .i64 i ∧ (∀ x ∈ L.take i, inB x 0 ((N : Int) - 1) = true) ∧ wr = w1) (fun vi _ => n - (intOf vi).toNat)
  case atStart => exact ⟨0, Nat.zero_le _, rfl, (fun x hx => by simp at hx), rfl⟩
  case round =>
    obtain ⟨i, hi, rfl, hno, rfl⟩ := hrel
    by_cases hlt : i < n
    · have hil : i < L.length := by have := HLN.out; omega
      obtain ⟨b, off, hE, hb, m⟩ := Ints.cells (HL.out.up (box_below HB1.out)) hil
      simp only [Option.some.injEq, Addr.mk.injEq, and_true] at hE
      obtain ⟨rfl, rfl⟩ := hE
      have m0 := m i hil
      have e0 : L.getD i 0 = L[i] := by rw [List.getD_eq_getElem?_getD, List.getElem?_eq_getElem hil]; rfl
      rw [e0, Nat.zero_add] at m0
      have HSN : Hid (inB L[i] 0 ((N : Int) - 1) = true → ∀ x ∈ L.take (i + 1), inB x 0 ((N : Int) - 1) = true) := Lib.hid (all_take hil hno)
      have HSY : Hid (inB L[i] 0 ((N : Int) - 1) = false → R = 6) := Lib.hid fun h => by
        rw [HX2.out, if_neg]
        intro h2
        rw [List.all_eq_true.1 h2 _ (List.getElem_mem hil)] at h
        cases h
      have HI := Lib.hid (fun u => isIndex_any L[i] N u)
      have t1 : decide ((i : Int) < (n : Int)) = true := decide_eq_true (by omega)
      have i0 : (0 : Int) ≤ (i : Int) := by omega
      have i1 : (i : Int) < (n : Int) := by omega
      have i2 : ((i : Int)).toNat = i := by omega
      generalize L[i] = x at *
      generalize inB x 0 ((N : Int) - 1) = z at *
      clear m e0 hno
      cases z
      case false =>
        have HR := Lib.hid (HSY.out rfl)
        clear HSY HSN
        go_wp2_with fail
        refine (HI.out _).mono ?_
        rintro e w2 ⟨rfl, rfl⟩
        go_wp2_with fail
        go_ret
        exact ⟨ret_int (by rw [HR.out]; rfl), box_below HB1.out⟩
      case true =>
        have HS := Lib.hid (HSN.out rfl)
        clear HSY HSN
        go_wp2_with fail
        refine (HI.out _).mono ?_
        rintro e w2 ⟨rfl, rfl⟩
        go_wp2_with fail
        go_roundw
        case rel => exact ⟨i + 1, by omega, by go_num, HS.out, trivial⟩
        case measure => simp [intOf]; omega
    · have t1 : decide ((i : Int) < (n : Int)) = false := decide_eq_false (by omega)
      have HR : Hid (R = 0) := Lib.hid (by
        rw [HX2.out, if_pos]
        exact List.all_eq_true.2 (all_full (by have := HLN.out; omega) hno))
      clear hno
      go_wp2_with fail
      go_ret
      exact ⟨ret_int (by rw [HR.out]; rfl), box_below HB1.out⟩

/-- the boxes of a type graph and of the numbers that are asked of -/
abbrev TwoB (w : World) (An : Option Addr) (N cn : Nat) (Ae : Option Addr) (M ce : Nat) (cs : Array Value) : World := (w.alloc (.cells #[.slice An N cn, .slice Ae M ce] 25 (0, 0))).alloc (.cells cs 3 (0, 0))
theorem twoB_cell {w u : World} {An : Option Addr} {N cn : Nat} {Ae : Option Addr} {M ce : Nat} {cs : Array Value} (h : Below (w.heap.size + 1 + 1) (TwoB w An N cn Ae M ce cs) u) : u.cell? ⟨w.heap.size, 0, none⟩ = some (.slice An N cn) ∧ u.cell? ⟨w.heap.size, 1, none⟩ = some (.slice Ae M ce) := by
  have e : ∀ j, u.cell? ⟨w.heap.size, j, none⟩ = (#[Value.slice An N cn, .slice Ae M ce])[j]? := fun j => (h.cell (p := ⟨w.heap.size, j, none⟩) (by show w.heap.size < _; omega)).trans (cell_of_row _ _ _ _ _ _ (heap_two _ _ _))
  exact ⟨e 0, e 1⟩
theorem twoB_below {w u : World} {An : Option Addr} {N cn : Nat} {Ae : Option Addr} {M ce : Nat} {cs : Array Value} (h : Below (w.heap.size + 1 + 1) (TwoB w An N cn Ae M ce cs) u) : Below w.heap.size w u :=
  (((Below.refl w.heap.size w).alloc (Nat.le_refl _) _).alloc (by simp) _).trans (h.mono (by omega))
theorem twoB_size {w u : World} {An : Option Addr} {N cn : Nat} {Ae : Option Addr} {M ce : Nat} {cs : Array Value} (h : Below (w.heap.size + 1 + 1) (TwoB w An N cn Ae M ce cs) u) : w.heap.size + 1 + 1 ≤ u.heap.size := by
  have := h.size; simpa using this
/-- check at one and at two numbers, as its callers ask it -/
theorem check1 (hn : NameC 60) (t : Typ) (An : Option Addr) (cn : Nat) (Ae : Option Addr) (ce : Nat) (a : Int) (w : World) (hf : FewT t) (hcap : CapT t cn ce) (hT : TyC w An Ae t) :
    Calls Try.prog 37 #[tyval An t.nodes.length cn Ae t.edges.length ce, .slice (some ⟨w.heap.size + 1, 0, none⟩) 1 1] (TwoB w An t.nodes.length cn Ae t.edges.length ce #[.int .i64 a]) fun e w' => e = .returned (.int .i64 (givenE t a a)) ∧ Below (w.heap.size + 1 + 1) (TwoB w An t.nodes.length cn Ae t.edges.length ce #[.int .i64 a]) w' := by
  have h := check_any hn t An cn Ae ce [a] (w.heap.size + 1) 1 1 (TwoB w An t.nodes.length cn Ae t.edges.length ce #[.int .i64 a]) hf hcap (hT.up (((Below.refl w.heap.size w).alloc (Nat.le_refl _) _).alloc (by simp) _)) rfl (by omega)
    (.inr ⟨_, _, rfl, by simp, fun i x hx j u hu => by
      have hi := (List.getElem?_eq_some_iff.1 hx).1
      simp at hi
      subst hi
      simp at hx
      subst hx
      have hj := (List.getElem?_eq_some_iff.1 hu).1
      simp [EInt] at hj
      subst hj
      simp [EInt] at hu
      subst hu
      exact cell_of_row _ _ _ _ _ _ (heap_two' _ _ _)⟩)
  rw [chkG_one] at h
  simpa using h
theorem check2 (hn : NameC 60) (t : Typ) (An : Option Addr) (cn : Nat) (Ae : Option Addr) (ce : Nat) (a b : Int) (w : World) (hf : FewT t) (hcap : CapT t cn ce) (hT : TyC w An Ae t) :
    Calls Try.prog 37 #[tyval An t.nodes.length cn Ae t.edges.length ce, .slice (some ⟨w.heap.size + 1, 0, none⟩) 2 2] (TwoB w An t.nodes.length cn Ae t.edges.length ce #[.int .i64 a, .int .i64 b]) fun e w' => e = .returned (.int .i64 (givenE t a b)) ∧ Below (w.heap.size + 1 + 1) (TwoB w An t.nodes.length cn Ae t.edges.length ce #[.int .i64 a, .int .i64 b]) w' := by
  have h := check_any hn t An cn Ae ce [a, b] (w.heap.size + 1) 2 2 (TwoB w An t.nodes.length cn Ae t.edges.length ce #[.int .i64 a, .int .i64 b]) hf hcap (hT.up (((Below.refl w.heap.size w).alloc (Nat.le_refl _) _).alloc (by simp) _)) rfl (by omega)
    (.inr ⟨_, _, rfl, by simp, fun i x hx j u hu => by
      have hi := (List.getElem?_eq_some_iff.1 hx).1
      have hj := (List.getElem?_eq_some_iff.1 hu).1
      simp at hi
      simp [EInt] at hj
      subst hj
      simp [EInt] at hu
      subst hu
      have hc : i = 0 ∨ i = 1 := by omega
      rcases hc with rfl | rfl
      · simp at hx
        subst hx
        exact cell_of_row _ _ _ _ _ _ (heap_two' _ _ _)
      · simp at hx
        subst hx
        exact cell_of_row _ _ _ _ _ _ (heap_two' _ _ _)⟩)
  rw [chkG_two] at h
  simpa using h

end Go.Proofs.Ytgpcaofikmdpjaa
