/-
  Difference, the program: slices.Backward over arrays of sums; laws inside a fence.
  Difference, the program: slices.Backward.
-/
import Derived.RangeFuncNested
import Derived.RangeFuncBox
import Derived.RangeFuncLeaves
import Derived.Shelf.Abstract
import Derived.Shelf.RegionOpen
import Derived.WalkKit
import Derived.OwnWalkIn
import Derived.TacticsInMore
import Derived.LoopNIn
import Derived.LoopIn
import Derived.Test.YtcmibhechhcpiaaPWalks
import Derived.Test.YtcmibhechhcpiaaOrd
namespace Go.Proofs.Ytcmibhechhcpiaa
open Go.RowKit Go.Shelf

attribute [local go_sem] Oper.semAt_some

theorem modify_push {α : Type} (a : Array α) (x : α) (f : α → α) : (a.push x).modify a.size f = a.push (f x) := by
  apply Array.ext_getElem?
  intro i
  rw [Array.getElem?_modify]
  by_cases h : a.size = i
  · subst h; simp
  · rw [if_neg h, Array.getElem?_push, Array.getElem?_push, if_neg (fun e => h e.symm), if_neg (fun e => h e.symm)]
theorem alloc_setRow (w : World) (c cs : Array Value) (t : TypeId) : (w.alloc (.cells c t)).setRow w.heap.size cs = w.alloc (.cells cs t) :=
  congrArg (fun h => ({ w with heap := h } : World)) (modify_push w.heap (Obj.cells c t (0, 0)) (fun | .cells _ elem frozen => .cells cs elem frozen | o => o))

section
variable {F : Fence} {n : Nat}
theorem wpListIn_load_mat {ops : Array Oper} {rest : List Oper} {op : Oper} {a : Act} {w : World} {Q : Exit → Act → World → Prop} (hgd : op.guard = none) (x : Operand) (ho : op.op = .load 85 x)
    (b o : Nat) (M : Nat → Nat → Int) (hx : a.eval x = .pointer (some ⟨b, o, none⟩)) (hc : w.rangeAt b o (matL M))
    (h : wpListIn F n Try.prog ops Q rest (a.put op.dst (.agg (matA M))) w) : wpListIn F n Try.prog ops Q (op :: rest) a w := by
  refine wpListIn_plain hgd fun K hK' => ?_
  have hrun := run_loadAt_mid (P := Try.prog) w b o 85 (matL M) _ hc Try.underlying85 rfl (by rw [matL_length]; exact infoSum1)
  unfold Oper.wpIn
  refine ⟨by simp [Oper.about, ho], ?_⟩
  rw [Oper.semAt_plain F _ _ (by rw [ho]; intro c hc'; cases hc')]
  simp [execOp, ho, hx, hrun, Result.andThen]
  exact hK' _ _ h
theorem wpListIn_store_new {ops : Array Oper} {rest : List Oper} {op : Oper} {a : Act} {w : World} {Q : Exit → Act → World → Prop} (hgd : op.guard = none) (x y : Operand) (ho : op.op = .store 85 x y)
    (g : Nat) (M : Nat → Nat → Int) (hg : g = w.heap.size) (hx : a.eval x = .pointer (some ⟨g, 0, none⟩)) (hy : a.eval y = .agg (matA M))
    (h : wpListIn F n Try.prog ops Q rest (a.put op.dst undef) (w.alloc (.cells (matA M) 85))) : wpListIn F n Try.prog ops Q (op :: rest) a (w.alloc (.cells Try.zeroCells85 85)) := by
  subst hg
  refine wpListIn_plain hgd fun K hK' => ?_
  have hb : (w.alloc (.cells Try.zeroCells85 85)).heap[w.heap.size]? = some (.cells Try.zeroCells85 85 (0, 0)) := heap_alloc_new _ _
  have hrun := run_storeVar_row (P := Try.prog) (w.alloc (.cells Try.zeroCells85 85)) w.heap.size 85 85 Try.zeroCells85 (matA M) hb (by rw [matA_size]; exact infoSum1) (by rw [mat_zero, matA_size, matA_size]) (matA_all M)
  have e := alloc_setRow w Try.zeroCells85 (matA M) 85
  unfold Oper.wpIn
  refine ⟨by simp [Oper.about, ho], ?_⟩
  rw [Oper.semAt_plain F _ _ (by rw [ho]; intro c hc'; cases hc')]
  simp [execOp, ho, hx, hy, Instr.storeAt, Instr.sureAddr, hrun, e, Result.andThen]
  exact hK' _ _ h
end

end Go.Proofs.Ytcmibhechhcpiaa

namespace Go.Proofs.Ytcmibhechhcpiaa
open Go.RowKit Go.Shelf

attribute [local go_sem] Oper.semAt_some

/-- what a round keeps: all below n₀, and the block of the slice's box -/
def KpB (n₀ Bs : Nat) (W W' : World) : Prop := Below n₀ W W' ∧ W'.heap[Bs]? = W.heap[Bs]?
theorem kpB_refl (n₀ Bs : Nat) (W : World) : KpB n₀ Bs W W := ⟨Below.refl _ _, rfl⟩
theorem kpB_t {n₀ Bs : Nat} {A B C : World} (h : KpB n₀ Bs A B) (k : KpB n₀ Bs B C) : KpB n₀ Bs A C := ⟨h.1.trans k.1, k.2.trans h.2⟩
theorem kpB_b {n₀ Bs : Nat} {w : World} (hn : n₀ ≤ w.heap.size) (hB : Bs < w.heap.size) (W : World) (l : Nat) (o o' : Obj) (hl : w.heap.size ≤ l) (h : W.heap[l]? = some o) (h1 : o.isCells = false) (h2 : o.isWalk = false) : KpB n₀ Bs W (W.putObj l o') :=
  ⟨belowK_b hn W l o o' hl h h1 h2, World.putObj_heap_other (by omega)⟩

abbrev Mfn := Nat → Nat → Int
def backF (Ms : List Mfn) (k : Nat) : Nat × Mfn := (Ms.length - 1 - k, Ms.getD (Ms.length - 1 - k) fun _ _ => 0)
theorem Reads.mats {w : World} {B : Nat} {A : Option Addr} {Ms : List Mfn} (h : Reads EMat w B A Ms) {k : Nat} (hk : k < Ms.length) : ∃ b off, A = some ⟨b, off, none⟩ ∧ b < B ∧ w.rangeAt b (off + k * 169) (matL Ms[k]) := by
  obtain ⟨b, off, h1, h2, h3⟩ := Reads.at h hk
  exact ⟨b, off, h1, h2, fun j v hv => h3 k hk j v hv⟩

set_option maxHeartbeats 1000000 in
theorem backward_in (F : Fence) (n : Nat) (h : F.fn 68) (hro : F.round = none) (a : Option Addr) (len cap : Nat) (w : World) :
    CallsIn F n Try.prog 68 #[.slice a len cap] w fun e w' => e = .returned (.func (.func 71) #[] #[.pointer (some ⟨w.heap.size, 0, none⟩)]) ∧ w' = w.alloc (.cells #[.slice a len cap] 87) := by
  refine callsIn_of_wp Try.func68 rfl h ?_ hro
  simp only [Try.ntmps68, List.size_toArray, List.length_cons, List.length_nil, Nat.reduceAdd, Nat.reduceSub, Array.replicate_succ, Array.replicate_zero, List.push_toArray, List.append_toArray, List.nil_append, List.cons_append]
  gi_wp2
  go_ret
  exact ⟨rfl, rfl⟩

set_option maxRecDepth 100000 in
set_option maxHeartbeats 2000000 in
theorem back1_in (F : Fence) (n : Nat) (h7 : F.fn 71) (hro : F.round = none) (l Bs n₀ cap : Nat) (A : Option Addr) (Ms : List Mfn) (hlen : Ms.length ≤ 1000) (J : Nat → World → Prop)
    (hY : ∀ k V, J k V → k < Ms.length → YieldAt F (n - 1) Try.prog l #[.int .i64 ((backF Ms k).1 : Int), .agg (matA (backF Ms k).2)] V fun e V' => e = .returned (.bool true) ∧ J (k + 1) V' ∧ KpB n₀ Bs V V')
    (hn : 1 ≤ n) (W : World) (hBs : W.heap[Bs]? = some (.cells #[.slice A Ms.length cap] 87 (0, 0))) (hR : Reads EMat W n₀ A Ms) (h0 : J 0 W) :
    CallsIn F n Try.prog 71 #[.func (.yield l) #[] #[], .pointer (some ⟨Bs, 0, none⟩)] W fun e W' => (∃ v, e = .returned v) ∧ J Ms.length W' := by
  have HR := Lib.hid hR
  have hbox : W.cell? ⟨Bs, 0, none⟩ = some (.slice A Ms.length cap) := by rw [cell_of_row _ _ _ _ _ _ hBs]; rfl
  have HBS := Lib.hid hBs
  clear hR hBs
  have hl0 : ((Ms.length : Int)) ≤ 1000 := by omega
  refine callsIn_of_wp Try.func71 rfl h7 ?_ hro
  simp only [Try.ntmps71, List.size_toArray, List.length_cons, List.length_nil, Nat.reduceAdd, Nat.reduceSub, Array.replicate_succ, Array.replicate_zero, List.push_toArray, List.append_toArray, List.nil_append, List.cons_append]
  gi_wp2
  gi_loopw [3] (fun i wr => ∃ k : Nat, k ≤ Ms.length ∧ i = .int .i64 ((Ms.length : Int) - 1 - (k : Int)) ∧ J k wr ∧ KpB n₀ Bs W wr)
    (fun i _ => (intOf i + 1).toNat)
  case atStart => exact ⟨0, Nat.zero_le _, by simp, h0, kpB_refl _ _ _⟩
  case round =>
    obtain ⟨k, hk, hi, hJs, hnx⟩ := hrel
    have hbox' : wr.cell? ⟨Bs, 0, none⟩ = some (.slice A Ms.length cap) := by rw [cell_of_row _ _ _ _ _ _ (hnx.2.trans HBS.out)]; rfl
    have HK := Lib.hid hnx
    by_cases hlt : k < Ms.length
    · obtain ⟨m, hm⟩ : ∃ m : Nat, m + 1 + k = Ms.length := ⟨Ms.length - 1 - k, by omega⟩
      have hmi : ((Ms.length : Int) - 1 - (k : Int)) = (m : Int) := by omega
      rw [hmi] at hi
      subst hi
      have hml : m < Ms.length := by omega
      obtain ⟨b, off, rfl, hb, hrg⟩ := Reads.mats (HR.out.below hnx.1) hml
      have hbk : backF Ms k = (m, Ms[m]) := by
        unfold backF
        rw [show Ms.length - 1 - k = m by omega, List.getD_eq_getElem?_getD, List.getElem?_eq_getElem hml]; rfl
      obtain ⟨fn, tmps, assign, body, hy, hR⟩ := hY k wr hJs hlt
      rw [hbk] at hy
      dsimp only at hy
      have HRG := Lib.hid hrg
      have hm0 : (0 : Int) ≤ (m : Int) := by omega
      have hm1 : (m : Int) < (Ms.length : Int) := by omega
      have hm2 : ((m : Int)).toNat = m := by omega
      have hm3 : (m : Int) ≤ 1000 := by omega
      have t1 : decide ((0 : Int) ≤ (m : Int)) = true := decide_eq_true hm0
      clear hnx hrg hmi hbk hY
      generalize Ms[m] = M at HRG hy
      gi_wp2_with (with_reducible refine wpListIn_load_mat rfl _ rfl b (off + m * 169) M rfl HRG.out ?_)
      refine hR.mono ?_
      rintro e W3 ⟨rfl, hJ3, hk3⟩
      gi_wp2
      go_roundw
      case rel => exact ⟨k + 1, by omega, by rw [show ((Ms.length : Int) - 1 - ((k + 1 : Nat) : Int)) = (m : Int) - 1 by omega], hJ3, kpB_t HK.out hk3⟩
      case measure => simp [intOf]
    · obtain rfl : k = Ms.length := by omega
      rw [show ((Ms.length : Int) - 1 - (Ms.length : Int)) = -1 by omega] at hi
      subst hi
      gi_wp2
      go_end0
      exact ⟨⟨_, rfl⟩, hJs⟩

theorem back_gives (F : Fence) (n : Nat) (h7 : F.fn 71) (hro : F.round = none) (hn : 1 ≤ n) (Bs n₀ cap : Nat) (A : Option Addr) (Ms : List Mfn) (hlen : Ms.length ≤ 1000) (w : World) (hBs : w.heap[Bs]? = some (.cells #[.slice A Ms.length cap] 87 (0, 0))) (hn₀ : n₀ ≤ w.heap.size)
    (hR : Reads EMat w n₀ A Ms) :
    Gives F n Try.prog 71 #[.pointer (some ⟨Bs, 0, none⟩)] (fun k => #[.int .i64 ((backF Ms k).1 : Int), .agg (matA (backF Ms k).2)]) (KpB n₀ Bs) Ms.length w := fun l J W hW hY h0 =>
  back1_in F n h7 hro l Bs n₀ cap A Ms hlen J hY hn W ((hW.block Bs (Array.getElem?_eq_some_iff.1 hBs).1).trans hBs) (hR.below (hW.mono hn₀)) h0

end Go.Proofs.Ytcmibhechhcpiaa
