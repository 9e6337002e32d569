/-
  Types: Ancestors and Below of the reference.
-/
import Derived.Test.YtgpcaofikmdpjaaTLis
namespace Go.Proofs.Ytgpcaofikmdpjaa
open Go.RowKit

/-- a list of ints with an error -/
def ListR (L : List Int) (er : Nat) (e : Ending) (w' : World) : Prop := ∃ A' c', e = .returned (.tuple #[.slice A' L.length c', .int .i64 er]) ∧ Ints w' w'.heap.size A' L
def ancL (t : Typ) (a : Int) (m : Nat) : List Int := ((List.range m).filter fun (i : Nat) => bel t a (i : Int)).map fun (i : Nat) => (i : Int)
def belL (t : Typ) (a : Int) (m : Nat) : List Int := ((List.range m).filter fun (i : Nat) => bel t (i : Int) a).map fun (i : Nat) => (i : Int)
def ancR (t : Typ) (a : Int) : List Int := if givenE t a a = 0 then ancL t a (a.toNat + 1) else []
def belR (t : Typ) (a : Int) : List Int := if givenE t a a = 0 then belL t a t.nodes.length else []
theorem ancL_succ (t : Typ) (a : Int) (i : Nat) : ancL t a (i + 1) = ancL t a i ++ if bel t a i then [(i : Int)] else [] := by
  unfold ancL
  rw [List.range_succ, List.filter_append, List.map_append]
  congr 1
  cases h : bel t a i <;> simp [h]
theorem belL_succ (t : Typ) (a : Int) (i : Nat) : belL t a (i + 1) = belL t a i ++ if bel t i a then [(i : Int)] else [] := by
  unfold belL
  rw [List.range_succ, List.filter_append, List.map_append]
  congr 1
  cases h : bel t i a <;> simp [h]
theorem ancL_len (t : Typ) (a : Int) (i : Nat) : (ancL t a i).length ≤ i := by
  unfold ancL
  rw [List.length_map]
  exact Nat.le_trans (List.length_filter_le _ _) (by simp)
theorem belL_len (t : Typ) (a : Int) (i : Nat) : (belL t a i).length ≤ i := by
  unfold belL
  rw [List.length_map]
  exact Nat.le_trans (List.length_filter_le _ _) (by simp)
theorem OwnE.readAt {α : Type} {E : El α} {t : TypeId} {w : World} {base n c : Nat} {A : Option Addr} {xs : List α} (h : OwnE E t w base (.slice A n c) xs) (_ : n = xs.length) : Reads E w w.heap.size A xs := by
  obtain ⟨A', c', e, r⟩ := h.reads
  simp only [Value.slice.injEq] at e
  rw [e.1]
  exact r

set_option maxRecDepth 100000 in
set_option maxHeartbeats 2000000 in
theorem ancestors_any (hn : NameC 55) (t : Typ) (An : Option Addr) (cn : Nat) (Ae : Option Addr) (ce : Nat) (a : Int) (hf : FewT t) (w : World) (hT : TyC w An Ae t) :
    Calls Try.prog 18 #[tyval An t.nodes.length cn Ae t.edges.length ce, .int .i64 a] w fun e w' => ListR (ancR t a) (givenE t a a) e w' ∧ Below w.heap.size w w' := by
  have HG := Lib.hid (fun u hu => given_any hn t An cn Ae ce a a hf u hu)
  have HT := Lib.hid hT
  have HX : Hid (ancR t a = if givenE t a a = 0 then ancL t a (a.toNat + 1) else []) := Lib.hid rfl
  clear hT hn hf
  generalize ancR t a = R at HX ⊢
  by_cases hg : givenE t a a = 0
  · have hG := giv_of hg
    rw [hg] at HG ⊢
    have HX2 : Hid (R = ancL t a (a.toNat + 1)) := Lib.hid (by rw [HX.out, if_pos hg])
    obtain ⟨k, rfl⟩ : ∃ k : Nat, a = k := ⟨a.toNat, by have := hG.a0; omega⟩
    have hk : k < t.nodes.length := by have := hG.a1; omega
    have hgp := hG.val.good
    have n12 := hG.val.few
    have HST := Lib.hid (fun (i : Nat) => ancL_succ t k i)
    have HLN := Lib.hid (fun (i : Nat) => ancL_len t k i)
    have HBE := Lib.hid (fun (i : Nat) (hi : i < t.nodes.length) u hu => below1_call hgp An cn Ae ce (a := (k : Int)) (i : Int) (by omega) (by omega) u hu)
    have HZ : Hid (ancL t k 0 = []) := Lib.hid rfl
    try rw [Int.toNat_natCast] at HX2
    clear HX hG hgp hg
    generalize hN : t.nodes.length = N at *
    generalize t.edges.length = M at *
    clear hN
    go_enter Try.func18, Try.ntmps18
    go_wp2_with fail
    refine (HG.out _ (HT.out.up ((Below.refl _ _).alloc (Nat.le_refl _) _))).mono ?_
    rintro e w1 ⟨rfl, hb1⟩
    have HB1 := Lib.hid (below_one' hb1)
    clear hb1
    go_wp2_with fail
    go_loopw [7, 8] (fun vo vi wr => ∃ i : Nat, i ≤ k + 1 ∧ vi = .int .i64 i ∧ OwnI wr (w.heap.size + 1) vo (ancL t k i) ∧ Below (w.heap.size + 1) (w.alloc (.cells #[.slice An N cn, .slice Ae M ce] 25 (0, 0))) wr) (fun _ vi _ => k + 1 - (intOf vi).toNat)
    case atStart => exact ⟨0, Nat.zero_le _, rfl, by rw [HZ.out]; exact OwnE.nil _ _ _, HB1.out⟩
    case round =>
      obtain ⟨i, hi, rfl, hown, hB⟩ := hrel
      obtain ⟨c0, c1⟩ := box_cell hB
      have hW := box_below hB
      by_cases hlt : i < k + 1
      · have t1 : decide ((i : Int) ≤ (k : Int)) = true := decide_eq_true (by omega)
        have HB := Lib.hid hB
        have hsz : w.heap.size + 1 ≤ wr.heap.size := by have := hB.size; simpa using this
        have HBI := Lib.hid (HBE.out i (by omega) wr (HT.out.up hW))
        have HSI := Lib.hid (HST.out i)
        have hln := HLN.out i
        generalize ancL t k i = L at HSI hown hln
        generalize bel t (k : Int) (i : Int) = z at HSI HBI
        have HO := Lib.hid hown
        clear hB hW hown
        cases z
        case false =>
          have HX3 : Hid (ancL t k (i + 1) = L) := Lib.hid (by rw [HSI.out]; simp)
          clear HSI
          go_wp2_with fail
          refine HBI.out.mono ?_
          rintro e w2 ⟨rfl, hb2⟩
          have HO2 := Lib.hid ((HO.out.below hb2 (Nat.le_refl _)).cast HX3.out.symm)
          have HB2 := Lib.hid (HB.out.trans (hb2.mono hsz))
          clear hb2
          go_wp2_with fail
          go_roundw
          case rel => exact ⟨i + 1, by omega, by go_num, HO2.out, HB2.out⟩
          case measure => simp [intOf]; omega
        case true =>
          have HX3 : Hid (ancL t k (i + 1) = L ++ [(i : Int)]) := Lib.hid (by rw [HSI.out]; rfl)
          clear HSI
          go_wp2_with fail
          refine HBI.out.mono ?_
          rintro e w2 ⟨rfl, hb2⟩
          have HO2 := Lib.hid (HO.out.below hb2 (Nat.le_refl _))
          have HB2 := Lib.hid (HB.out.trans (hb2.mono hsz))
          have hsz2 : w.heap.size + 1 ≤ w2.heap.size := Nat.le_trans hsz hb2.size
          clear hb2
          go_wp2_with (at_builtin; refine wpList_append_int (w := w2.alloc _) rfl _ _ rfl (w.heap.size + 1) _ L rfl ?y1 w2.heap.size 1 (i : Int) rfl ?y2 ?y3 ?y4 ?_)
          case y1 => exact HO2.out.alloc _
          case y2 => simp
          case y3 => omega
          case y4 => simp; omega
          intro v3 w3 hown3 hg3 hb3
          have HO3 := Lib.hid (hown3.cast HX3.out.symm)
          have HB3 := Lib.hid ((HB2.out.alloc hsz2 _).trans hb3)
          clear hown3 hg3 hb3
          go_wp2_with fail
          go_roundw
          case rel => exact ⟨i + 1, by omega, by go_num, HO3.out, HB3.out⟩
          case measure => simp [intOf]; omega
      · have t1 : decide ((i : Int) ≤ (k : Int)) = false := decide_eq_false (by omega)
        have e : i = k + 1 := by omega
        have HL : Hid (ancL t k i = R) := Lib.hid (by rw [e, HX2.out])
        have HO := Lib.hid (hown.cast HL.out)
        have HW := Lib.hid hW
        obtain ⟨Ao, co, rfl⟩ := OwnE.slice hown
        clear hB hW hown e
        go_wp2_with fail
        go_ret2
        exact ⟨⟨Ao, co, by (rw [HL.out]; rfl), by have := HO.out; exact Go.Proofs.Ytgpcaofikmdpjaa.OwnE.readAt this (by rw [HL.out])⟩, HW.out⟩
  · have HX2 : Hid (R = []) := Lib.hid (by rw [HX.out, if_neg hg])
    generalize givenE t a a = g at HG hg ⊢
    have t3 : ((g : Int) != 0) = true := by simp; omega
    clear HX hg
    go_enter Try.func18, Try.ntmps18
    go_wp2_with fail
    refine (HG.out _ (HT.out.up ((Below.refl _ _).alloc (Nat.le_refl _) _))).mono ?_
    rintro e w1 ⟨rfl, hb1⟩
    have HB1 := Lib.hid (box_below (below_one' hb1))
    clear hb1
    go_wp2_with fail
    go_ret2
    exact ⟨by rw [HX2.out]; exact ⟨none, 0, rfl, .inl rfl⟩, HB1.out⟩

set_option maxRecDepth 100000 in
set_option maxHeartbeats 2000000 in
theorem belowS_any (hn : NameC 55) (t : Typ) (An : Option Addr) (cn : Nat) (Ae : Option Addr) (ce : Nat) (a : Int) (hf : FewT t) (w : World) (hT : TyC w An Ae t) :
    Calls Try.prog 20 #[tyval An t.nodes.length cn Ae t.edges.length ce, .int .i64 a] w fun e w' => ListR (belR t a) (givenE t a a) e w' ∧ Below w.heap.size w w' := by
  have HG := Lib.hid (fun u hu => given_any hn t An cn Ae ce a a hf u hu)
  have HT := Lib.hid hT
  have HX : Hid (belR t a = if givenE t a a = 0 then belL t a (t.nodes.length) else []) := Lib.hid rfl
  clear hT hn hf
  generalize belR t a = R at HX ⊢
  by_cases hg : givenE t a a = 0
  · have hG := giv_of hg
    rw [hg] at HG ⊢
    have HX2 : Hid (R = belL t a (t.nodes.length)) := Lib.hid (by rw [HX.out, if_pos hg])
    obtain ⟨k, rfl⟩ : ∃ k : Nat, a = k := ⟨a.toNat, by have := hG.a0; omega⟩
    have hk : k < t.nodes.length := by have := hG.a1; omega
    have hgp := hG.val.good
    have n12 := hG.val.few
    have HST := Lib.hid (fun (i : Nat) => belL_succ t k i)
    have HLN := Lib.hid (fun (i : Nat) => belL_len t k i)
    have HBE := Lib.hid (fun (i : Nat) (hi : i < t.nodes.length) u hu => below1_call hgp An cn Ae ce (a := (i : Int)) (k : Int) (by omega) (by omega) u hu)
    have HZ : Hid (belL t k 0 = []) := Lib.hid rfl
    try rw [Int.toNat_natCast] at HX2
    clear HX hG hgp hg
    generalize hN : t.nodes.length = N at *
    generalize t.edges.length = M at *
    clear hN
    go_enter Try.func20, Try.ntmps20
    go_wp2_with fail
    refine (HG.out _ (HT.out.up ((Below.refl _ _).alloc (Nat.le_refl _) _))).mono ?_
    rintro e w1 ⟨rfl, hb1⟩
    have HB1 := Lib.hid (below_one' hb1)
    clear hb1
    go_wp2_with fail
    go_loopw [7, 8] (fun vo vi wr => ∃ i : Nat, i ≤ N ∧ vi = .int .i64 i ∧ OwnI wr (w.heap.size + 1) vo (belL t k i) ∧ Below (w.heap.size + 1) (w.alloc (.cells #[.slice An N cn, .slice Ae M ce] 25 (0, 0))) wr) (fun _ vi _ => N - (intOf vi).toNat)
    case atStart => exact ⟨0, Nat.zero_le _, rfl, by rw [HZ.out]; exact OwnE.nil _ _ _, HB1.out⟩
    case round =>
      obtain ⟨i, hi, rfl, hown, hB⟩ := hrel
      obtain ⟨c0, c1⟩ := box_cell hB
      have hW := box_below hB
      by_cases hlt : i < N
      · have t1 : decide ((i : Int) < (N : Int)) = true := decide_eq_true (by omega)
        have HB := Lib.hid hB
        have hsz : w.heap.size + 1 ≤ wr.heap.size := by have := hB.size; simpa using this
        have HBI := Lib.hid (HBE.out i (by omega) wr (HT.out.up hW))
        have HSI := Lib.hid (HST.out i)
        have hln := HLN.out i
        generalize belL t k i = L at HSI hown hln
        generalize bel t (i : Int) (k : Int) = z at HSI HBI
        have HO := Lib.hid hown
        clear hB hW hown
        cases z
        case false =>
          have HX3 : Hid (belL t k (i + 1) = L) := Lib.hid (by rw [HSI.out]; simp)
          clear HSI
          go_wp2_with fail
          refine HBI.out.mono ?_
          rintro e w2 ⟨rfl, hb2⟩
          have HO2 := Lib.hid ((HO.out.below hb2 (Nat.le_refl _)).cast HX3.out.symm)
          have HB2 := Lib.hid (HB.out.trans (hb2.mono hsz))
          clear hb2
          go_wp2_with fail
          go_roundw
          case rel => exact ⟨i + 1, by omega, by go_num, HO2.out, HB2.out⟩
          case measure => simp [intOf]; omega
        case true =>
          have HX3 : Hid (belL t k (i + 1) = L ++ [(i : Int)]) := Lib.hid (by rw [HSI.out]; rfl)
          clear HSI
          go_wp2_with fail
          refine HBI.out.mono ?_
          rintro e w2 ⟨rfl, hb2⟩
          have HO2 := Lib.hid (HO.out.below hb2 (Nat.le_refl _))
          have HB2 := Lib.hid (HB.out.trans (hb2.mono hsz))
          have hsz2 : w.heap.size + 1 ≤ w2.heap.size := Nat.le_trans hsz hb2.size
          clear hb2
          go_wp2_with (at_builtin; refine wpList_append_int (w := w2.alloc _) rfl _ _ rfl (w.heap.size + 1) _ L rfl ?y1 w2.heap.size 1 (i : Int) rfl ?y2 ?y3 ?y4 ?_)
          case y1 => exact HO2.out.alloc _
          case y2 => simp
          case y3 => omega
          case y4 => simp; omega
          intro v3 w3 hown3 hg3 hb3
          have HO3 := Lib.hid (hown3.cast HX3.out.symm)
          have HB3 := Lib.hid ((HB2.out.alloc hsz2 _).trans hb3)
          clear hown3 hg3 hb3
          go_wp2_with fail
          go_roundw
          case rel => exact ⟨i + 1, by omega, by go_num, HO3.out, HB3.out⟩
          case measure => simp [intOf]; omega
      · have t1 : decide ((i : Int) < (N : Int)) = false := decide_eq_false (by omega)
        have e : i = N := by omega
        have HL : Hid (belL t k i = R) := Lib.hid (by rw [e, HX2.out])
        have HO := Lib.hid (hown.cast HL.out)
        have HW := Lib.hid hW
        obtain ⟨Ao, co, rfl⟩ := OwnE.slice hown
        clear hB hW hown e
        go_wp2_with fail
        go_ret2
        exact ⟨⟨Ao, co, by (rw [HL.out]; rfl), by have := HO.out; exact Go.Proofs.Ytgpcaofikmdpjaa.OwnE.readAt this (by rw [HL.out])⟩, HW.out⟩
  · have HX2 : Hid (R = []) := Lib.hid (by rw [HX.out, if_neg hg])
    generalize givenE t a a = g at HG hg ⊢
    have t3 : ((g : Int) != 0) = true := by simp; omega
    clear HX hg
    go_enter Try.func20, Try.ntmps20
    go_wp2_with fail
    refine (HG.out _ (HT.out.up ((Below.refl _ _).alloc (Nat.le_refl _) _))).mono ?_
    rintro e w1 ⟨rfl, hb1⟩
    have HB1 := Lib.hid (box_below (below_one' hb1))
    clear hb1
    go_wp2_with fail
    go_ret2
    exact ⟨by rw [HX2.out]; exact ⟨none, 0, rfl, .inl rfl⟩, HB1.out⟩

end Go.Proofs.Ytgpcaofikmdpjaa
