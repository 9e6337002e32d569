/-
  Drafts: what numbers describe a graph, as plain data and in memory.
-/
import Derived.Test.YtiafmhdicgmfaaaGPlU
import Derived.Test.YtiafmhdicgmfaaaGFr2
import Derived.Test.YtiafmhdicgmfaaaGOpen
namespace Go.Proofs.Ytiafmhdicgmfaaa
open Go.RowKit

abbrev B3 := Nat × Nat × Nat
structure Dr where
  ns : List Nat
  es : List B3
/-- every number is a byte -/
def Dr.ok (d : Dr) : Prop := (∀ i, d.ns.getD i 0 < 256) ∧ ∀ i, (d.es.getD i (0, 0, 0)).1 < 256 ∧ (d.es.getD i (0, 0, 0)).2.1 < 256 ∧ (d.es.getD i (0, 0, 0)).2.2 < 256
def drN (d : Dr) : Nat := min d.ns.length 8
def drM (d : Dr) : Nat := if drN d = 0 then 0 else min d.es.length 10
def ndM (d : Dr) (i : Nat) : Int := ((d.ns.getD i 0 % 3 : Nat) : Int)
def edM (d : Dr) (j : Nat) : Ed := ⟨((d.es.getD j (0, 0, 0)).1 % 2 : Nat), ((d.es.getD j (0, 0, 0)).2.1 % drN d : Nat), ((d.es.getD j (0, 0, 0)).2.2 % drN d : Nat)⟩
def nsT (d : Dr) (k : Nat) : List Int := coll (fun i => [ndM d i]) k
def esT (d : Dr) (k : Nat) : List Ed := coll (fun j => [edM d j]) k
def madeG (d : Dr) : Gr := ⟨nsT d (drN d), esT d (drM d)⟩
theorem nsT_len (d : Dr) (k : Nat) : (nsT d k).length = k := coll_len _ _
theorem esT_len (d : Dr) (k : Nat) : (esT d k).length = k := coll_len _ _
theorem made_lens (d : Dr) : (madeG d).ns.length = drN d ∧ (madeG d).es.length = drM d := ⟨nsT_len _ _, esT_len _ _⟩
theorem drN_le (d : Dr) : drN d ≤ 8 ∧ drN d ≤ d.ns.length := by unfold drN; omega
theorem drM_le (d : Dr) : drM d ≤ 10 ∧ drM d ≤ d.es.length := by unfold drM; split <;> omega
theorem made_valid (d : Dr) : validE (madeG d) = 0 := by
  obtain ⟨l1, l2⟩ := made_lens d
  have h1 := drN_le d
  have h2 := drM_le d
  apply valid_ok (by omega) (by omega)
  · intro i hi
    rw [l1] at hi
    have e : (madeG d).ns.getD i 0 = ndM d i := coll_getD _ hi _
    rw [e]
    apply idxB_iff.2
    unfold ndM
    have := Nat.mod_lt (d.ns.getD i 0) (show 0 < 3 by omega)
    omega
  · intro i hi
    rw [l2] at hi
    have e : (madeG d).es.getD i default = edM d i := coll_getD _ hi _
    rw [e, l1]
    have hp : 0 < drN d := by
      unfold drM at hi
      split at hi <;> omega
    apply edB_iff.2
    unfold edM
    have a1 := Nat.mod_lt (d.es.getD i (0, 0, 0)).1 (show 0 < 2 by omega)
    have a2 := Nat.mod_lt (d.es.getD i (0, 0, 0)).2.1 hp
    have a3 := Nat.mod_lt (d.es.getD i (0, 0, 0)).2.2 hp
    dsimp only
    omega
theorem made_uni (x y : Dr) : uniE (madeG x) (madeG y) = 0 := by
  obtain ⟨l1, l2⟩ := made_lens x
  obtain ⟨l3, l4⟩ := made_lens y
  have h1 := drN_le x
  have h2 := drM_le x
  have h3 := drN_le y
  have h4 := drM_le y
  unfold uniE
  rw [made_valid, made_valid, if_neg (by simp), if_neg (by simp), if_neg (by omega)]

/-! in memory -/
def EBy : El Nat := ⟨fun x => [.int .u8 (x : Int)], 1, fun _ => rfl, fun x u hu => by simp at hu; subst hu; rfl⟩
def EB3 : El B3 := ⟨fun x => [.int .u8 (x.1 : Int), .int .u8 (x.2.1 : Int), .int .u8 (x.2.2 : Int)], 3, fun _ => rfl, fun x u hu => by simp at hu; rcases hu with rfl | rfl | rfl <;> rfl⟩
structure DrAt (w : World) (An : Option Addr) (cn : Nat) (Ae : Option Addr) (ce : Nat) (d : Dr) : Prop where
  ns : Reads EBy w w.heap.size An d.ns
  es : Reads EB3 w w.heap.size Ae d.es
  cn : d.ns.length ≤ cn ∧ cn ≤ maxLen
  ce : d.es.length ≤ ce ∧ ce ≤ maxLen
  ok : d.ok
theorem DrAt.up {w w' : World} {An : Option Addr} {cn : Nat} {Ae : Option Addr} {ce : Nat} {d : Dr} (h : DrAt w An cn Ae ce d) (hb : Below w.heap.size w w') : DrAt w' An cn Ae ce d := ⟨Reads.up h.ns hb, Reads.up h.es hb, h.cn, h.ce, h.ok⟩
theorem byte_at {w : World} {B : Nat} {A : Option Addr} {xs : List Nat} (h : Reads EBy w B A xs) {k : Nat} (hk : k < xs.length) : ∃ b off, A = some ⟨b, off, none⟩ ∧ b < B ∧ w.cell? ⟨b, off + k, none⟩ = some (.int .u8 ((xs.getD k 0 : Nat) : Int)) := by
  obtain ⟨b, off, h1, h2, h3⟩ := Reads.at h hk
  refine ⟨b, off, h1, h2, ?_⟩
  have e : xs.getD k 0 = xs[k] := by rw [List.getD_eq_getElem?_getD, List.getElem?_eq_getElem hk]; rfl
  rw [e]
  have := h3 k hk 0 _ rfl
  simpa [EBy] using this
theorem b3_at {w : World} {B : Nat} {A : Option Addr} {xs : List B3} (h : Reads EB3 w B A xs) {k : Nat} (hk : k < xs.length) : ∃ b off, A = some ⟨b, off, none⟩ ∧ b < B ∧ w.cell? ⟨b, off + k * 3, none⟩ = some (.int .u8 (((xs.getD k (0, 0, 0)).1 : Nat) : Int)) ∧ w.cell? ⟨b, off + k * 3 + 1, none⟩ = some (.int .u8 (((xs.getD k (0, 0, 0)).2.1 : Nat) : Int)) ∧ w.cell? ⟨b, off + k * 3 + 2, none⟩ = some (.int .u8 (((xs.getD k (0, 0, 0)).2.2 : Nat) : Int)) := by
  obtain ⟨b, off, h1, h2, h3⟩ := Reads.at h hk
  have e : xs.getD k (0, 0, 0) = xs[k] := by rw [List.getD_eq_getElem?_getD, List.getElem?_eq_getElem hk]; rfl
  rw [e]
  exact ⟨b, off, h1, h2, h3 k hk 0 _ rfl, h3 k hk 1 _ rfl, h3 k hk 2 _ rfl⟩

section
open Go.ChangeShapes Go.WideShapes Go.Deep
variable {H : Type} {enc : TypeId × Value → H} {W : World} {fuel : Nat} {cs : List Value} {x : DataW H × List MemPlace}
theorem cellsByte : Try.prog.cellsOf 5 = 1 := by kernel_rfl
theorem cells3b : Try.prog.cellsOf 90 = 3 := by kernel_rfl
theorem cellsBys : Try.prog.cellsOf 55 = 1 := by kernel_rfl
theorem cells3bs : Try.prog.cellsOf 56 = 1 := by kernel_rfl
theorem cellsDr : Try.prog.cellsOf 58 = 2 := by kernel_rfl
theorem byte_of {v : Value} (h : DataW.trod enc Try.prog W 0 (fun _ => true) true fuel 5 [v] = some x) : ∃ n : Nat, v = .int .u8 (n : Int) ∧ n < 256 := by
  obtain ⟨n, e, _, hw⟩ := DataW.trod_int Try.underlying5 h
  simp [Lit.wf, IntKind.min, IntKind.max, IntKind.signed, IntKind.bits] at hw
  injection e with e
  exact ⟨n.toNat, by rw [e]; congr 1; omega, by omega⟩
theorem byte_of1 (h : DataW.trod enc Try.prog W 0 (fun _ => true) true fuel 5 cs = some x) : ∃ n : Nat, cs = EBy.enc n ∧ n < 256 := by
  obtain ⟨n, e, _, hw⟩ := DataW.trod_int Try.underlying5 h
  subst e
  obtain ⟨m, e, hm⟩ := byte_of h
  exact ⟨m, by rw [e]; rfl, hm⟩
set_option maxRecDepth 100000 in
theorem three_of (h : DataW.trod enc Try.prog W 0 (fun _ => true) true fuel 90 cs = some x) : ∃ y : B3, cs = EB3.enc y ∧ (y.1 < 256 ∧ y.2.1 < 256 ∧ y.2.2 < 256) := by
  obtain ⟨xs, k, _, _, hl, hxl, hel⟩ := DataW.trod_array Try.underlying90 h
  rw [cells3b] at hl
  match cs, hl with
  | [c0, c1, c2], _ =>
    have e0 := hel 0 (by decide)
    have e1 := hel 1 (by decide)
    have e2 := hel 2 (by decide)
    rw [cellsByte] at e0 e1 e2
    simp only [Nat.mul_one, List.drop_zero, List.take_succ_cons, List.take_zero, List.drop_succ_cons] at e0 e1 e2
    rw [List.getElem?_eq_getElem (by omega)] at e0 e1 e2
    obtain ⟨n0, rfl, b0⟩ := byte_of e0
    obtain ⟨n1, rfl, b1⟩ := byte_of e1
    obtain ⟨n2, rfl, b2⟩ := byte_of e2
    exact ⟨(n0, n1, n2), rfl, b0, b1, b2⟩
theorem open_b (h : DataW.trod enc Try.prog W 0 (fun _ => true) true fuel 55 cs = some x) :
    ∃ (A : Option Addr) (xs : List Nat) (c : Nat), cs = [.slice A xs.length c] ∧ (Reads EBy W W.heap.size A xs ∧ ∀ i, xs.getD i 0 < 256) ∧ xs.length ≤ c ∧ c ≤ maxLen := by
  obtain ⟨A, xs, c, e, hR, hG, h1, h2⟩ := open_E EBy (fun n => n < 256) 5 55 Try.underlying55 cellsByte (by decide) (fun fuel cs x h => byte_of1 h) h
  refine ⟨A, xs, c, e, ⟨hR, fun i => ?_⟩, h1, h2⟩
  rcases Nat.lt_or_ge i xs.length with hi | hi
  · exact hG _ (getD_mem hi)
  · rw [List.getD_eq_getElem?_getD, List.getElem?_eq_none hi]; decide
/-- a draft among the arguments -/
theorem open_Dr (h : DataW.trod enc Try.prog W 0 (fun _ => true) true fuel 58 cs = some x) :
    ∃ (d : Dr) (An : Option Addr) (cn : Nat) (Ae : Option Addr) (ce : Nat), cs = [.slice An d.ns.length cn, .slice Ae d.es.length ce] ∧ DrAt W An cn Ae ce d := by
  obtain ⟨y0, y1, n, hx, hl, h0, h1⟩ := trod_struct2 Try.underlying58 h
  dsimp only at h0 h1
  rw [cellsBys] at h0
  rw [cells3bs] at h1
  rw [cellsDr] at hl
  obtain ⟨An, ns, cn, e0, ⟨hN, hG⟩, hn1, hn2⟩ := open_b h0
  obtain ⟨Ae, es, ce, e1, hE, hG2, he1, he2⟩ := open_E EB3 (fun y => y.1 < 256 ∧ y.2.1 < 256 ∧ y.2.2 < 256) 90 56 Try.underlying56 cells3b (by decide) (fun fuel cs x h => three_of h) h1
  refine ⟨⟨ns, es⟩, An, cn, Ae, ce, two_of hl e0 e1, ⟨hN, hE, ⟨hn1, hn2⟩, ⟨he1, he2⟩, hG, fun i => ?_⟩⟩
  rcases Nat.lt_or_ge i es.length with hi | hi
  · exact hG2 _ (getD_mem hi)
  · show (es.getD i (0, 0, 0)).1 < 256 ∧ _
    rw [List.getD_eq_getElem?_getD, List.getElem?_eq_none hi]; decide
end

end Go.Proofs.Ytiafmhdicgmfaaa
