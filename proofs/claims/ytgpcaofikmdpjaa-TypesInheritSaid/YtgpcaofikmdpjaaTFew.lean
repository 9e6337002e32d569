/-
  Types: Few.
-/
import Derived.Test.YtgpcaofikmdpjaaTSam
namespace Go.Proofs.Ytgpcaofikmdpjaa
open Go.RowKit

def FewEnd (t : Typ) (e : Ending) : Prop := ∃ b : Bool, e = .returned (.bool b) ∧ (b = true → FewT t)
theorem few_no (t : Typ) : FewEnd t (.returned (.bool false)) := ⟨false, rfl, fun h => by cases h⟩
theorem all_take {α : Type} {l : List α} {P : α → Prop} {k : Nat} (hk : k < l.length) (h : ∀ x ∈ l.take k, P x) (hp : P l[k]) : ∀ x ∈ l.take (k + 1), P x := fun x hx => by
  rw [List.take_succ_eq_append_getElem hk, List.mem_append] at hx
  rcases hx with hx | hx
  · exact h x hx
  · simp at hx; rw [hx]; exact hp
theorem all_full {α : Type} {l : List α} {P : α → Prop} {k : Nat} (hk : l.length ≤ k) (h : ∀ x ∈ l.take k, P x) : ∀ x ∈ l, P x := by rwa [List.take_of_length_le hk] at h
def NodSm (x : Nod) : Prop := x.nm.size ≤ 40 ∧ x.att.length ≤ 30 ∧ ∀ a ∈ x.att, AttSm a

set_option maxRecDepth 100000 in
set_option maxHeartbeats 4000000 in
theorem few_any (t : Typ) (An : Option Addr) (cn : Nat) (Ae : Option Addr) (ce : Nat) (w : World) (hm : ∀ x ∈ t.nodes, x.att.length ≤ 200000000000000) (hT : TyC w An Ae t) :
    Calls Try.prog 12 #[tyval An t.nodes.length cn Ae t.edges.length ce] w fun e w' => FewEnd t e ∧ Below w.heap.size w w' := by
  have HT := Lib.hid hT
  have HMX : Hid (∀ (k : Nat) (hk : k < t.nodes.length), t.nodes[k].att.length ≤ 200000000000000) := Lib.hid fun k hk => hm _ (List.getElem_mem hk)
  have HFIN : Hid (t.nodes.length ≤ 20 → t.edges.length ≤ 30 → (∀ x ∈ t.nodes, NodSm x) → (∀ x ∈ t.edges, x.nm.size ≤ 40) → FewEnd t (.returned (.bool true))) := Lib.hid fun h1 h2 h3 h4 => ⟨true, rfl, fun _ => ⟨h1, h2, h3, h4⟩⟩
  have HNO := Lib.hid (few_no t)
  clear hT hm
  by_cases h20 : 20 < t.nodes.length
  · have t1 : decide (20 < (t.nodes.length : Int)) = true := decide_eq_true (by omega)
    go_enter Try.func12, Try.ntmps12
    go_wp2_with fail
    go_ret
    exact ⟨HNO.out, (Below.refl _ _).alloc (Nat.le_refl _) _⟩
  · have t1 : decide (20 < (t.nodes.length : Int)) = false := decide_eq_false (by omega)
    by_cases h30 : 30 < t.edges.length
    · have t2 : decide (30 < (t.edges.length : Int)) = true := decide_eq_true (by omega)
      go_enter Try.func12, Try.ntmps12
      go_wp2_with fail
      go_ret
      exact ⟨HNO.out, (Below.refl _ _).alloc (Nat.le_refl _) _⟩
    · have t2 : decide (30 < (t.edges.length : Int)) = false := decide_eq_false (by omega)
      go_enter Try.func12, Try.ntmps12
      go_wp2_with fail
      clear t1 t2
      go_loopw [3, 4] (fun vn vi wr => ∃ (i n : Nat), i ≤ t.nodes.length ∧ vi = .int .i64 i ∧ vn = .int .i64 n ∧ n ≤ 30 ∧ (∀ x ∈ t.nodes.take i, NodSm x) ∧ Below (w.heap.size + 1) (w.alloc (.cells #[.slice An t.nodes.length cn, .slice Ae t.edges.length ce] 25 (0, 0))) wr) (fun _ vi _ => t.nodes.length - (intOf vi).toNat)
      case atStart => exact ⟨0, 0, Nat.zero_le _, rfl, rfl, by omega, (fun x hx => by simp at hx), Below.refl _ _⟩
      case round =>
        obtain ⟨i, n, hi, rfl, rfl, hn30, hno, hB⟩ := hrel
        obtain ⟨c0, c1⟩ := box_cell hB
        by_cases hlt : i < t.nodes.length
        · obtain ⟨wo, hwo⟩ : ∃ wo, wo = wr := ⟨_, rfl⟩
          subst hwo
          have t1 : decide ((i : Int) < (t.nodes.length : Int)) = true := decide_eq_true (by omega)
          obtain ⟨b1, off, A', c', rfl, hbb, k0, k1, k2, k3, hat⟩ := Nods.cells (HT.out.up (box_below hB)).1 hlt
          have hmx := HMX.out i hlt
          have HSN : Hid (NodSm t.nodes[i] → ∀ x ∈ t.nodes.take (i + 1), NodSm x) := Lib.hid (all_take hlt hno)
          have i0 : (0 : Int) ≤ (i : Int) := by omega
          have i1 : (i : Int) < (t.nodes.length : Int) := by omega
          have i2 : ((i : Int)).toNat = i := by omega
          generalize t.nodes[i] = x at k0 k1 k2 k3 hat hmx HSN
          obtain ⟨nm, par, ab, att⟩ := x
          dsimp only at k0 k1 k2 k3 hat hmx
          have HAT := Lib.hid hat
          have HB := Lib.hid hB
          have hsz : w.heap.size + 1 ≤ wo.heap.size := by have := hB.size; simpa using this
          clear hB hno hat
          by_cases hs : 30 < n + att.length
          · have t3 : decide (30 < (n : Int) + (att.length : Int)) = true := decide_eq_true (by omega)
            go_wp2_with fail
            go_ret
            exact ⟨HNO.out, box_below HB.out⟩
          · have t3 : decide (30 < (n : Int) + (att.length : Int)) = false := decide_eq_false (by omega)
            by_cases h40 : 40 < nm.size
            · have t4 : decide (40 < (nm.size : Int)) = true := decide_eq_true (by omega)
              go_wp2_with fail
              go_ret
              exact ⟨HNO.out, box_below HB.out⟩
            · have t4 : decide (40 < (nm.size : Int)) = false := decide_eq_false (by omega)
              go_wp2_with fail
              clear t3 t4 t1
              go_loopw [5] (fun vk wr => ∃ k : Nat, k ≤ att.length ∧ vk = .int .i64 k ∧ (∀ a ∈ att.take k, AttSm a) ∧ Below wo.heap.size wo wr) (fun vk _ => att.length - (intOf vk).toNat)
              case atStart => exact ⟨0, Nat.zero_le _, rfl, (fun x hx => by simp at hx), Below.refl _ _⟩
              case round =>
                obtain ⟨k, hk, rfl, hno, hB⟩ := hrel
                have hB0 := HB.out.trans (hB.mono hsz)
                obtain ⟨d0, d1⟩ := box_cell hB0
                have e3 := (hB.cell (p := ⟨b1, off + i * 4 + 3, none⟩) hbb).trans k3
                by_cases hltk : k < att.length
                · have t1 : decide ((k : Int) < (att.length : Int)) = true := decide_eq_true (by omega)
                  obtain ⟨b2, off2, A2, c2, rfl, hbb2, m0, m1, m2, m3, hst⟩ := Atts.cells (HAT.out.below hB) hltk
                  have HSA : Hid (AttSm att[k] → ∀ a ∈ att.take (k + 1), AttSm a) := Lib.hid (all_take hltk hno)
                  have q0 : (0 : Int) ≤ (k : Int) := by omega
                  have q1 : (k : Int) < (att.length : Int) := by omega
                  have q2 : ((k : Int)).toNat = k := by omega
                  generalize att[k] = a at m0 m1 m2 m3 hst HSA
                  obtain ⟨an, alo, ahi, ans⟩ := a
                  dsimp only at m0 m1 m2 m3 hst
                  have HST := Lib.hid hst
                  have HB2 := Lib.hid hB
                  have HBD := Lib.hid (box_below hB0)
                  have hsz2 : wo.heap.size ≤ wr.heap.size := hB.size
                  clear hB hno hst hB0
                  by_cases ha : 40 < an.size
                  · have t3 : decide (40 < (an.size : Int)) = true := decide_eq_true (by omega)
                    go_wp2_with fail
                    go_ret
                    exact ⟨HNO.out, HBD.out.alloc HBD.out.size _⟩
                  · have t3 : decide (40 < (an.size : Int)) = false := decide_eq_false (by omega)
                    by_cases hq : 25 < ans.length
                    · have t4 : decide (25 < (ans.length : Int)) = true := decide_eq_true (by omega)
                      go_wp2_with fail
                      go_ret
                      exact ⟨HNO.out, HBD.out.alloc HBD.out.size _⟩
                    · have t4 : decide (25 < (ans.length : Int)) = false := decide_eq_false (by omega)
                      obtain ⟨wp, hwp⟩ : ∃ wp, wp = wr := ⟨_, rfl⟩
                      subst hwp
                      go_wp2_with fail
                      clear t1 t3 t4 m0 m1 m2 m3 e3 d0 d1
                      go_loopw [7] (fun vj wr => ∃ j : Nat, j ≤ ans.length ∧ vj = .int .i64 j ∧ (∀ s ∈ ans.take j, s.size ≤ 40) ∧ wr = wp.alloc (.cells #[.string an, .int .i64 alo, .int .i64 ahi, .slice A2 ans.length c2] 58 (0, 0))) (fun vj _ => ans.length - (intOf vj).toNat)
                      case atStart => exact ⟨0, Nat.zero_le _, rfl, (fun x hx => by simp at hx), rfl⟩
                      case round =>
                        obtain ⟨j, hj, rfl, hno, rfl⟩ := hrel
                        by_cases hltj : j < ans.length
                        · have t1 : decide ((j : Int) < (ans.length : Int)) = true := decide_eq_true (by omega)
                          obtain ⟨b3, off3, rfl, hbb3, s0⟩ := Strs.cell HST.out hltj
                          have HSS : Hid (ans[j].size ≤ 40 → ∀ s ∈ ans.take (j + 1), s.size ≤ 40) := Lib.hid (all_take hltj hno)
                          have z0 : (0 : Int) ≤ (j : Int) := by omega
                          have z1 : (j : Int) < (ans.length : Int) := by omega
                          have z2 : ((j : Int)).toNat = j := by omega
                          generalize ans[j] = s at s0 HSS
                          have s1 := (World.cell?_alloc_lt wp (.cells #[.string an, .int .i64 alo, .int .i64 ahi, .slice (some ⟨b3, off3, none⟩) ans.length c2] 58 (0, 0)) ⟨b3, off3 + j, none⟩ (show b3 < wp.heap.size by omega)).trans s0
                          clear hno s0
                          by_cases hs4 : 40 < s.size
                          · have t3 : decide (40 < (s.size : Int)) = true := decide_eq_true (by omega)
                            go_wp2_with fail
                            go_ret
                            exact ⟨HNO.out, HBD.out.alloc HBD.out.size _⟩
                          · have t3 : decide (40 < (s.size : Int)) = false := decide_eq_false (by omega)
                            have HX := Lib.hid (HSS.out (by omega))
                            go_wp2_with fail
                            go_roundw
                            case rel => exact ⟨j + 1, by omega, by go_num, HX.out, trivial⟩
                            case measure => simp [intOf]; omega
                        · have t1 : decide ((j : Int) < (ans.length : Int)) = false := decide_eq_false (by omega)
                          have HX := Lib.hid (HSA.out ⟨by dsimp only; omega, by dsimp only; omega, all_full (show ans.length ≤ j by omega) hno⟩)
                          clear hno
                          go_wp2_with fail
                          go_roundw
                          case rel => exact ⟨k + 1, by omega, by go_num, HX.out, HB2.out.alloc hsz2 _⟩
                          case measure => simp [intOf]; omega
                · have t1 : decide ((k : Int) < (att.length : Int)) = false := decide_eq_false (by omega)
                  have HX := Lib.hid (HSN.out ⟨by dsimp only; omega, by dsimp only; omega, all_full (show att.length ≤ k by omega) hno⟩)
                  have HB0 := Lib.hid hB0
                  clear hB hno hB0
                  go_wp2_with fail
                  go_roundw
                  case rel => exact ⟨i + 1, n + att.length, by omega, by go_num, by go_num, by omega, HX.out, HB0.out⟩
                  case measure => simp [intOf]; omega
        · have t1 : decide ((i : Int) < (t.nodes.length : Int)) = false := decide_eq_false (by omega)
          have HX : Hid (∀ x ∈ t.nodes, NodSm x) := Lib.hid (all_full (by omega) hno)
          have HB := Lib.hid hB
          clear hB hno
          go_wp2_with fail
          clear c0 c1 t1
          go_loopw [8] (fun vj wr => ∃ j : Nat, j ≤ t.edges.length ∧ vj = .int .i64 j ∧ (∀ x ∈ t.edges.take j, x.nm.size ≤ 40) ∧ Below (w.heap.size + 1) (w.alloc (.cells #[.slice An t.nodes.length cn, .slice Ae t.edges.length ce] 25 (0, 0))) wr) (fun vj _ => t.edges.length - (intOf vj).toNat)
          case atStart => exact ⟨0, Nat.zero_le _, rfl, (fun x hx => by simp at hx), HB.out⟩
          case round =>
            obtain ⟨j, hj, rfl, hno, hB⟩ := hrel
            obtain ⟨c0, c1⟩ := box_cell hB
            by_cases hltj : j < t.edges.length
            · have t1 : decide ((j : Int) < (t.edges.length : Int)) = true := decide_eq_true (by omega)
              obtain ⟨b3, off3, rfl, hbb3, s0, _⟩ := Edgs.cells (HT.out.up (box_below hB)).2 hltj
              have HSS : Hid (t.edges[j].nm.size ≤ 40 → ∀ x ∈ t.edges.take (j + 1), x.nm.size ≤ 40) := Lib.hid (all_take hltj hno)
              have z0 : (0 : Int) ≤ (j : Int) := by omega
              have z1 : (j : Int) < (t.edges.length : Int) := by omega
              have z2 : ((j : Int)).toNat = j := by omega
              generalize t.edges[j].nm = s at s0 HSS
              have HB2 := Lib.hid hB
              clear hno hB
              by_cases hs4 : 40 < s.size
              · have t3 : decide (40 < (s.size : Int)) = true := decide_eq_true (by omega)
                go_wp2_with fail
                go_ret
                exact ⟨HNO.out, box_below HB2.out⟩
              · have t3 : decide (40 < (s.size : Int)) = false := decide_eq_false (by omega)
                have HX2 := Lib.hid (HSS.out (by omega))
                go_wp2_with fail
                go_roundw
                case rel => exact ⟨j + 1, by omega, by go_num, HX2.out, HB2.out⟩
                case measure => simp [intOf]; omega
            · have t1 : decide ((j : Int) < (t.edges.length : Int)) = false := decide_eq_false (by omega)
              have HX2 : Hid (∀ x ∈ t.edges, x.nm.size ≤ 40) := Lib.hid (all_full (by omega) hno)
              have HB2 := Lib.hid (box_below hB)
              clear hno hB
              go_wp2_with fail
              go_ret
              exact ⟨HFIN.out (by omega) (by omega) HX.out HX2.out, HB2.out⟩

end Go.Proofs.Ytgpcaofikmdpjaa
