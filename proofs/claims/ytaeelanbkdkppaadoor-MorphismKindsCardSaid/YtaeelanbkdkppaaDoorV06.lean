import Derived.Test.YtaeelanbkdkppaaDoorV05
import Derived.Test.YtaeelanbkdkppaaDoorV01
import Derived.ProofKit
import Derived.OpenShut
import Derived.Deep.Slices
import Derived.Deep.Strs
import Derived.SizedLaws
import Derived.Test.YtaeelanbkdkppaaDoorV04
import Derived.Lib.SmallJoins
import Derived.Deep.RegionHeld3
import Derived.Deep.DeepCutAuto
import Derived.Test.YtaeelanbkdkppaaDoorV02
import Derived.Great.BuildSlice
/-
  Graphs: a function's box and its two result variables.
-/
namespace Go.Proofs.YtaeelanbkdkppaaDoor
open Go.RowKit

/-- the box w.size is read, the two variables behind it are written -/
abbrev S2 (w : World) (u v : Value) (t' t t2 : TypeId) (W : World) : Prop :=
  (W.cell? ⟨w.heap.size, 0, none⟩ = some u ∧ W.cell? ⟨w.heap.size, 1, none⟩ = some v) ∧ (Sto (w.heap.size + 1) W ∧ Sto (w.heap.size + 2) W) ∧ BoxIs w.heap.size u v t' W ∧ Blk (w.heap.size + 1) t W ∧ Blk (w.heap.size + 2) t2 W ∧ Below w.heap.size w W
section
variable {w W W' : World} {u v : Value} {t' t t2 : TypeId}
theorem S2.mk (h1 : BoxIs w.heap.size u v t' W) (h2 : Blk (w.heap.size + 1) t W) (h3 : Blk (w.heap.size + 2) t2 W) (h4 : Below w.heap.size w W) : S2 w u v t' t t2 W := ⟨h1.cells, ⟨h2.sto, h3.sto⟩, h1, h2, h3, h4⟩
theorem S2.be (h : S2 w u v t' t t2 W) : Below w.heap.size w W := h.2.2.2.2.2
theorem S2.up (h : S2 w u v t' t t2 W) (hb : Below W.heap.size W W') : S2 w u v t' t t2 W' := S2.mk (h.2.2.1.up hb) (h.2.2.2.1.up hb) (h.2.2.2.2.1.up hb) (h.be.trans (hb.mono h.be.size))
theorem S2.grow {t0 : TypeId} {base : Nat} (h : S2 w u v t' t t2 W) (ht : t' ≠ t0) (ht2 : t ≠ t0) (ht3 : t2 ≠ t0) (hb : w.heap.size ≤ base) (hg : Grow t0 base W W') : S2 w u v t' t t2 W' := S2.mk (h.2.2.1.grow ht hg) (h.2.2.2.1.grow ht2 hg) (h.2.2.2.2.1.grow ht3 hg) (h.be.trans (hg.1.mono hb))
theorem S2.set (h : S2 w u v t' t t2 W) {p : Addr} (hp : w.heap.size + 3 ≤ p.block) (x : Value) : S2 w u v t' t t2 (W.setCell p x) :=
  S2.mk (h.2.2.1.set (by omega) x) (h.2.2.2.1.set (by omega) x) (h.2.2.2.2.1.set (by omega) x) (h.be.setCell (by omega) x)
theorem S2.start (w : World) (u v a b c d : Value) (t' t t2 : TypeId) : S2 w u v t' t t2 (((w.alloc (.cells #[u, v] t' (0, 0))).alloc (.cells #[a, b] t (0, 0))).alloc (.cells #[c, d] t2 (0, 0))) := by
  have h0 := heap_two w (.cells #[u, v] t' (0, 0)) (.cells #[a, b] t (0, 0))
  have h1 := heap_two' w (.cells #[u, v] t' (0, 0)) (.cells #[a, b] t (0, 0))
  have h2 := heap_alloc_new ((w.alloc (.cells #[u, v] t' (0, 0))).alloc (.cells #[a, b] t (0, 0))) (.cells #[c, d] t2 (0, 0))
  exact S2.mk (heap_up (below_a _ _) h0) ⟨a, b, heap_up (below_a _ _) h1⟩ ⟨c, d, by simpa using h2⟩ ((((Below.refl _ _).alloc (Nat.le_refl _) _).alloc (by simp) _).alloc (by simp; omega) _)
theorem S2.lt (h : S2 w u v t' t t2 W) : w.heap.size < W.heap.size ∧ w.heap.size + 1 < W.heap.size ∧ w.heap.size + 2 < W.heap.size := by
  have := heap_lt h.2.2.2.2.1.choose_spec.choose_spec
  omega
/-- both results are written, in this order or the other -/
abbrev set4 (W : World) (g h : Nat) (a b c d : Value) : World := (((W.setCell ⟨g, 0, none⟩ a).setCell ⟨g, 1, none⟩ b).setCell ⟨h, 0, none⟩ c).setCell ⟨h, 1, none⟩ d
theorem S2.store (h : S2 w u v t' t t2 W) (a b c d : Value) : Below w.heap.size w (set4 W (w.heap.size + 1) (w.heap.size + 2) a b c d) ∧ (set4 W (w.heap.size + 1) (w.heap.size + 2) a b c d).heap[w.heap.size + 1]? = some (.cells #[a, b] t (0, 0)) ∧ (set4 W (w.heap.size + 1) (w.heap.size + 2) a b c d).heap[w.heap.size + 2]? = some (.cells #[c, d] t2 (0, 0)) := by
  have h1 := store2 h.2.2.2.1 a b
  have k : Blk (w.heap.size + 2) t2 ((W.setCell ⟨w.heap.size + 1, 0, none⟩ a).setCell ⟨w.heap.size + 1, 1, none⟩ b) := (h.2.2.2.2.1.set (by simp) _).set (by simp) _
  exact ⟨(((h.be.setCell (by simp) _).setCell (by simp) _).setCell (by simp) _).setCell (by simp) _, (Below.heap_setCell _ _ _ _ (by simp)).trans ((Below.heap_setCell _ _ _ _ (by simp)).trans h1), store2 k c d⟩
end
theorem OwnE.setBox {α : Type} {E : El α} {t t' : TypeId} {w : World} {base g : Nat} {v a b x : Value} {xs : List α} (h : OwnE E t w base v xs) (hb : BoxIs g a b t' w) (ht : t ≠ t') (j : Nat) : OwnE E t (w.setCell ⟨g, j, none⟩ x) base v xs := by
  refine ⟨h.1, ?_⟩
  rcases h.2 with hn | ⟨g2, cap, cur, hv, hbg, hh, rest⟩
  · exact .inl hn
  · refine .inr ⟨g2, cap, cur, hv, hbg, (Below.heap_setCell w ⟨g, j, none⟩ x g2 (fun e => ?_)).trans hh, rest⟩
    have e : g2 = g := e
    subst e
    unfold BoxIs at hb
    rw [hb] at hh
    simp only [Option.some.injEq, Obj.cells.injEq] at hh
    exact ht hh.2.1.symm
/-- a row is kept by stores into blocks below its base -/
theorem OwnE.set4 {α : Type} {E : El α} {t : TypeId} {W : World} {base g h : Nat} {v : Value} {xs : List α} (ho : OwnE E t W base v xs) (hg : g < base) (hh : h < base) (a b c d : Value) : OwnE E t (Go.Proofs.YtaeelanbkdkppaaDoor.set4 W g h a b c d) base v xs :=
  ownsRow_setCell_below (ownsRow_setCell_below (ownsRow_setCell_below (ownsRow_setCell_below ho (a := ⟨g, 0, none⟩) hg a) (a := ⟨g, 1, none⟩) hg b) (a := ⟨h, 0, none⟩) hh c) (a := ⟨h, 1, none⟩) hh d
theorem OwnE.store2 {α : Type} {E : El α} {t t' : TypeId} {W : World} {base g : Nat} {v : Value} {xs : List α} (h : OwnE E t W base v xs) (hb : Blk g t' W) (ht : t ≠ t') (a b : Value) : OwnE E t ((W.setCell ⟨g, 0, none⟩ a).setCell ⟨g, 1, none⟩ b) base v xs := by
  obtain ⟨x, y, hh⟩ := hb
  have hh : BoxIs g x y t' W := hh
  exact (h.setBox hh ht 0).setBox (hh.set0 a) ht 1
theorem step_append_G {α : Type} {E : El α} {w : World} {ops : Array Oper} {o : Oper} {a : Act} {K : Act → World → Prop} {Q : Exit → Act → World → Prop} {X : Prop} (hgd : o.guard = none) (s x : Operand) (T t : TypeId)
    (ho : o.op = .call { callee := .builtin .append, args := #[s, x], argTypes := #[T, T] }) {z : Value} {bytes : Nat}
    (hT : Tryd.prog.underlying T = some (.slice t)) (hinfo : (Tryd.prog.info? t).map (fun i => (i.zero, i.size, i.bytes)) = some (some z, E.size, bytes)) (hzc : z.cells.size = E.size) (hpos : 0 < E.size) (hby : bytes ≤ 1000)
    (base : Nat) (v : Value) (xs : List α) (hs : a.eval s = v) (hown : OwnE E t w base v xs) (ad : Addr) (c : Nat) (m : α) (hx : a.eval x = .slice (some ad) 1 c)
    (hc : ∀ j u, (E.enc m)[j]? = some u → w.cell? (ad.add j) = some u) (hl : xs.length ≤ 1000000) (hbase : base ≤ w.heap.size)
    (hK : ∀ v' w', OwnE E t w' base v' (xs ++ [m]) → Grow t base w w' → K (a.put o.dst v') w') : if Region.wanted o (yielded ops a.tmps) = true then Oper.wp Tryd.prog o a w K Q else X :=
  step_append_E hgd s x T t ho hT hinfo hzc hpos hby base v xs hs hown ad c m hx hc hl hbase fun v' w' h1 h2 h3 => hK v' w' h1 (Grow.own hown h2 h3)
end Go.Proofs.YtaeelanbkdkppaaDoor

/-
  Arguments: a slice of plain elements, opened.
-/
namespace Go.Proofs.YtaeelanbkdkppaaDoor
open Go.RowKit

theorem laidOut : laidOutB Tryd.prog = true := by kernel_rfl
theorem ownNone : ownKnob Tryd.prog.godebug = none := by kernel_rfl
section
open Go.ChangeShapes Go.WideShapes Go.Deep

theorem open_E {α : Type} (E : El α) (G : α → Prop) (t T : TypeId) (hT : Tryd.prog.underlying T = some (.slice t)) (hc : Tryd.prog.cellsOf t = E.size) (hp : 0 < E.size) [Inhabited α]
    {H : Type} {enc : TypeId × Value → H} {W : World} (hdec : ∀ (fuel : Nat) (cs : List Value) (x : DataW H × List MemPlace), DataW.trod enc Tryd.prog W 0 (fun _ => true) true fuel t cs = some x → ∃ y, cs = E.enc y ∧ G y)
    {fuel : Nat} {cs : List Value} {x : DataW H × List MemPlace} (h : DataW.trod enc Tryd.prog W 0 (fun _ => true) true fuel T cs = some x) :
    ∃ (A : Option Addr) (xs : List α) (c : Nat), cs = [.slice A xs.length c] ∧ Reads E W W.heap.size A xs ∧ (∀ y ∈ xs, G y) ∧ xs.length ≤ c ∧ c ≤ maxLen := by
  rcases open_slice hT h with ⟨rfl, rfl⟩ | ⟨a, len, cap, m, n, D, Pl, rfl, _, hlc, hcm, hm, rfl, hi⟩
  · exact ⟨none, [], 0, rfl, .inl rfl, fun y hy => by simp at hy, by simp, by simp⟩
  · simp only [if_true] at hm
    subst hm
    have hget : ∀ i, ∃ y : α, i < len → G y ∧ ∀ j u, (E.enc y)[j]? = some u → W.cell? (a.add (i * E.size + j)) = some u := by
      intro i
      by_cases hil : i < len
      · obtain ⟨cs', hcs, ht⟩ := hi i (by omega)
        rw [hc] at hcs
        obtain ⟨_, hl2, hat⟩ := World.cells?_some hcs
        obtain ⟨y, rfl, hg⟩ := hdec _ _ _ ht
        refine ⟨y, fun _ => ⟨hg, fun j u hu => ?_⟩⟩
        have hj : j < E.size := by
          rw [← E.len y]
          rcases Nat.lt_or_ge j (E.enc y).length with h1 | h1
          · exact h1
          · rw [List.getElem?_eq_none h1] at hu; cases hu
        have := hat j hj
        rw [Addr.add_add] at this
        rw [this, hu]
      · exact ⟨default, fun h => absurd h hil⟩
    obtain ⟨f, hf⟩ := Classical.axiomOfChoice hget
    have hlf : ((List.range len).map f).length = len := by simp
    refine ⟨some a, (List.range len).map f, m, by rw [hlf], ?_, ?_, by omega, hcm⟩
    · by_cases h0 : len = 0
      · subst h0; exact .inl rfl
      · obtain ⟨b, off, spot⟩ := a
        obtain ⟨u, hu⟩ : ∃ u, (E.enc (f 0))[0]? = some u := ⟨_, List.getElem?_eq_getElem (by rw [E.len]; exact hp)⟩
        have hc0 := (hf 0 (by omega)).2 0 u hu
        have hspot : spot = none := by simpa [Addr.add] using World.cell?_spot hc0
        subst hspot
        have hb : b < W.heap.size := by
          have := World.block_lt_of_cell? W _ hc0
          simpa [Addr.add] using this
        refine .inr ⟨b, off, rfl, hb, fun i y hy j u hu => ?_⟩
        rw [List.getElem?_map, Option.map_eq_some_iff] at hy
        obtain ⟨i', hi', rfl⟩ := hy
        rw [List.getElem?_eq_some_iff] at hi'
        obtain ⟨h1, h2⟩ := hi'
        rw [List.getElem_range] at h2
        rw [List.length_range] at h1
        subst h2
        have := (hf i h1).2 j u hu
        rw [addr_plain] at this
        rw [show off + i * E.size + j = off + (i * E.size + j) by omega]
        exact this
    · intro y hy
      rw [List.mem_map] at hy
      obtain ⟨i, hi1, rfl⟩ := hy
      exact (hf i (by simpa using hi1)).1

end

end Go.Proofs.YtaeelanbkdkppaaDoor

/-
  Graphs: a graph, an edge, a list of numbers as an argument, opened.
-/
namespace Go.Proofs.YtaeelanbkdkppaaDoor
open Go.RowKit

section
open Go.ChangeShapes Go.WideShapes Go.Deep
variable {H : Type} {enc : TypeId × Value → H} {W : World} {fuel : Nat} {cs : List Value} {x : DataW H × List MemPlace}

theorem agg_of {cs : Array Value} {l : List Value} (h : (Value.agg cs).cells.toList = l) : cs = l.toArray := by
  have h2 : (Value.agg cs).cells = cs := rfl
  rw [h2] at h
  rw [← h]
theorem two_of {cs : List Value} (hl : cs.length = 2) {u v : Value} (h0 : (cs.drop 0).take 1 = [u]) (h1 : (cs.drop 1).take 1 = [v]) : cs = [u, v] := by
  match cs, hl with
  | [a, b], _ => simp at h0 h1; rw [h0, h1]
end

end Go.Proofs.YtaeelanbkdkppaaDoor

/-
  Drafts: what numbers describe a graph, as plain data and in memory.
-/
namespace Go.Proofs.YtaeelanbkdkppaaDoor
open Go.RowKit

abbrev B3 := Nat × Nat × Nat
structure Dr where
  ns : List Nat
  es : List B3
/-- every number is a byte -/
def Dr.ok (d : Dr) : Prop := (∀ i, d.ns.getD i 0 < 256) ∧ ∀ i, (d.es.getD i (0, 0, 0)).1 < 256 ∧ (d.es.getD i (0, 0, 0)).2.1 < 256 ∧ (d.es.getD i (0, 0, 0)).2.2 < 256
def drN (d : Dr) : Nat := min d.ns.length 8
def drM (d : Dr) : Nat := if drN d = 0 then 0 else min d.es.length 10
def ndM (d : Dr) (i : Nat) : Int := ((d.ns.getD i 0 % 3 : Nat) : Int)
def edM (d : Dr) (j : Nat) : Ed := ⟨((d.es.getD j (0, 0, 0)).1 % 2 : Nat), ((d.es.getD j (0, 0, 0)).2.1 % drN d : Nat), ((d.es.getD j (0, 0, 0)).2.2 % drN d : Nat)⟩
def nsT (d : Dr) (k : Nat) : List Int := coll (fun i => [ndM d i]) k
def esT (d : Dr) (k : Nat) : List Ed := coll (fun j => [edM d j]) k
def madeG (d : Dr) : Gr := ⟨nsT d (drN d), esT d (drM d)⟩
theorem nsT_len (d : Dr) (k : Nat) : (nsT d k).length = k := coll_len _ _
theorem esT_len (d : Dr) (k : Nat) : (esT d k).length = k := coll_len _ _
theorem made_lens (d : Dr) : (madeG d).ns.length = drN d ∧ (madeG d).es.length = drM d := ⟨nsT_len _ _, esT_len _ _⟩
theorem drN_le (d : Dr) : drN d ≤ 8 ∧ drN d ≤ d.ns.length := by unfold drN; omega
theorem drM_le (d : Dr) : drM d ≤ 10 ∧ drM d ≤ d.es.length := by unfold drM; split <;> omega
theorem made_valid (d : Dr) : validE (madeG d) = 0 := by
  obtain ⟨l1, l2⟩ := made_lens d
  have h1 := drN_le d
  have h2 := drM_le d
  apply valid_ok (by omega) (by omega)
  · intro i hi
    rw [l1] at hi
    have e : (madeG d).ns.getD i 0 = ndM d i := coll_getD _ hi _
    rw [e]
    apply idxB_iff.2
    unfold ndM
    have := Nat.mod_lt (d.ns.getD i 0) (show 0 < 3 by omega)
    omega
  · intro i hi
    rw [l2] at hi
    have e : (madeG d).es.getD i default = edM d i := coll_getD _ hi _
    rw [e, l1]
    have hp : 0 < drN d := by
      unfold drM at hi
      split at hi <;> omega
    apply edB_iff.2
    unfold edM
    have a1 := Nat.mod_lt (d.es.getD i (0, 0, 0)).1 (show 0 < 2 by omega)
    have a2 := Nat.mod_lt (d.es.getD i (0, 0, 0)).2.1 hp
    have a3 := Nat.mod_lt (d.es.getD i (0, 0, 0)).2.2 hp
    dsimp only
    omega
/-! in memory -/
def EBy : El Nat := ⟨fun x => [.int .u8 (x : Int)], 1, fun _ => rfl, fun x u hu => by simp at hu; subst hu; rfl⟩
def EB3 : El B3 := ⟨fun x => [.int .u8 (x.1 : Int), .int .u8 (x.2.1 : Int), .int .u8 (x.2.2 : Int)], 3, fun _ => rfl, fun x u hu => by simp at hu; rcases hu with rfl | rfl | rfl <;> rfl⟩
structure DrAt (w : World) (An : Option Addr) (cn : Nat) (Ae : Option Addr) (ce : Nat) (d : Dr) : Prop where
  ns : Reads EBy w w.heap.size An d.ns
  es : Reads EB3 w w.heap.size Ae d.es
  cn : d.ns.length ≤ cn ∧ cn ≤ maxLen
  ce : d.es.length ≤ ce ∧ ce ≤ maxLen
  ok : d.ok
theorem DrAt.up {w w' : World} {An : Option Addr} {cn : Nat} {Ae : Option Addr} {ce : Nat} {d : Dr} (h : DrAt w An cn Ae ce d) (hb : Below w.heap.size w w') : DrAt w' An cn Ae ce d := ⟨Reads.up h.ns hb, Reads.up h.es hb, h.cn, h.ce, h.ok⟩
theorem byte_at {w : World} {B : Nat} {A : Option Addr} {xs : List Nat} (h : Reads EBy w B A xs) {k : Nat} (hk : k < xs.length) : ∃ b off, A = some ⟨b, off, none⟩ ∧ b < B ∧ w.cell? ⟨b, off + k, none⟩ = some (.int .u8 ((xs.getD k 0 : Nat) : Int)) := by
  obtain ⟨b, off, h1, h2, h3⟩ := Reads.at h hk
  refine ⟨b, off, h1, h2, ?_⟩
  have e : xs.getD k 0 = xs[k] := by rw [List.getD_eq_getElem?_getD, List.getElem?_eq_getElem hk]; rfl
  rw [e]
  have := h3 k hk 0 _ rfl
  simpa [EBy] using this
theorem b3_at {w : World} {B : Nat} {A : Option Addr} {xs : List B3} (h : Reads EB3 w B A xs) {k : Nat} (hk : k < xs.length) : ∃ b off, A = some ⟨b, off, none⟩ ∧ b < B ∧ w.cell? ⟨b, off + k * 3, none⟩ = some (.int .u8 (((xs.getD k (0, 0, 0)).1 : Nat) : Int)) ∧ w.cell? ⟨b, off + k * 3 + 1, none⟩ = some (.int .u8 (((xs.getD k (0, 0, 0)).2.1 : Nat) : Int)) ∧ w.cell? ⟨b, off + k * 3 + 2, none⟩ = some (.int .u8 (((xs.getD k (0, 0, 0)).2.2 : Nat) : Int)) := by
  obtain ⟨b, off, h1, h2, h3⟩ := Reads.at h hk
  have e : xs.getD k (0, 0, 0) = xs[k] := by rw [List.getD_eq_getElem?_getD, List.getElem?_eq_getElem hk]; rfl
  rw [e]
  exact ⟨b, off, h1, h2, h3 k hk 0 _ rfl, h3 k hk 1 _ rfl, h3 k hk 2 _ rfl⟩

section
open Go.ChangeShapes Go.WideShapes Go.Deep
variable {H : Type} {enc : TypeId × Value → H} {W : World} {fuel : Nat} {cs : List Value} {x : DataW H × List MemPlace}
theorem cellsByte : Tryd.prog.cellsOf 5 = 1 := by kernel_rfl
theorem cells3b : Tryd.prog.cellsOf 102 = 3 := by kernel_rfl
theorem cellsBys : Tryd.prog.cellsOf 53 = 1 := by kernel_rfl
theorem cells3bs : Tryd.prog.cellsOf 54 = 1 := by kernel_rfl
theorem cellsDr : Tryd.prog.cellsOf 56 = 2 := by kernel_rfl
theorem byte_of {v : Value} (h : DataW.trod enc Tryd.prog W 0 (fun _ => true) true fuel 5 [v] = some x) : ∃ n : Nat, v = .int .u8 (n : Int) ∧ n < 256 := by
  obtain ⟨n, e, _, hw⟩ := DataW.trod_int Tryd.underlying5 h
  simp [Lit.wf, IntKind.min, IntKind.max, IntKind.signed, IntKind.bits] at hw
  injection e with e
  exact ⟨n.toNat, by rw [e]; congr 1; omega, by omega⟩
theorem byte_of1 (h : DataW.trod enc Tryd.prog W 0 (fun _ => true) true fuel 5 cs = some x) : ∃ n : Nat, cs = EBy.enc n ∧ n < 256 := by
  obtain ⟨n, e, _, hw⟩ := DataW.trod_int Tryd.underlying5 h
  subst e
  obtain ⟨m, e, hm⟩ := byte_of h
  exact ⟨m, by rw [e]; rfl, hm⟩
set_option maxRecDepth 100000 in
theorem three_of (h : DataW.trod enc Tryd.prog W 0 (fun _ => true) true fuel 102 cs = some x) : ∃ y : B3, cs = EB3.enc y ∧ (y.1 < 256 ∧ y.2.1 < 256 ∧ y.2.2 < 256) := by
  obtain ⟨xs, k, _, _, hl, hxl, hel⟩ := DataW.trod_array Tryd.underlying102 h
  rw [cells3b] at hl
  match cs, hl with
  | [c0, c1, c2], _ =>
    have e0 := hel 0 (by decide)
    have e1 := hel 1 (by decide)
    have e2 := hel 2 (by decide)
    rw [cellsByte] at e0 e1 e2
    simp only [Nat.mul_one, List.drop_zero, List.take_succ_cons, List.take_zero, List.drop_succ_cons] at e0 e1 e2
    rw [List.getElem?_eq_getElem (by omega)] at e0 e1 e2
    obtain ⟨n0, rfl, b0⟩ := byte_of e0
    obtain ⟨n1, rfl, b1⟩ := byte_of e1
    obtain ⟨n2, rfl, b2⟩ := byte_of e2
    exact ⟨(n0, n1, n2), rfl, b0, b1, b2⟩
theorem open_b (h : DataW.trod enc Tryd.prog W 0 (fun _ => true) true fuel 53 cs = some x) :
    ∃ (A : Option Addr) (xs : List Nat) (c : Nat), cs = [.slice A xs.length c] ∧ (Reads EBy W W.heap.size A xs ∧ ∀ i, xs.getD i 0 < 256) ∧ xs.length ≤ c ∧ c ≤ maxLen := by
  obtain ⟨A, xs, c, e, hR, hG, h1, h2⟩ := open_E EBy (fun n => n < 256) 5 53 Tryd.underlying53 cellsByte (by decide) (fun fuel cs x h => byte_of1 h) h
  refine ⟨A, xs, c, e, ⟨hR, fun i => ?_⟩, h1, h2⟩
  rcases Nat.lt_or_ge i xs.length with hi | hi
  · exact hG _ (getD_mem hi)
  · rw [List.getD_eq_getElem?_getD, List.getElem?_eq_none hi]; decide
/-- a draft among the arguments -/
theorem open_Dr (h : DataW.trod enc Tryd.prog W 0 (fun _ => true) true fuel 56 cs = some x) :
    ∃ (d : Dr) (An : Option Addr) (cn : Nat) (Ae : Option Addr) (ce : Nat), cs = [.slice An d.ns.length cn, .slice Ae d.es.length ce] ∧ DrAt W An cn Ae ce d := by
  obtain ⟨y0, y1, n, hx, hl, h0, h1⟩ := trod_struct2 Tryd.underlying56 h
  dsimp only at h0 h1
  rw [cellsBys] at h0
  rw [cells3bs] at h1
  rw [cellsDr] at hl
  obtain ⟨An, ns, cn, e0, ⟨hN, hG⟩, hn1, hn2⟩ := open_b h0
  obtain ⟨Ae, es, ce, e1, hE, hG2, he1, he2⟩ := open_E EB3 (fun y => y.1 < 256 ∧ y.2.1 < 256 ∧ y.2.2 < 256) 102 54 Tryd.underlying54 cells3b (by decide) (fun fuel cs x h => three_of h) h1
  refine ⟨⟨ns, es⟩, An, cn, Ae, ce, two_of hl e0 e1, ⟨hN, hE, ⟨hn1, hn2⟩, ⟨he1, he2⟩, hG, fun i => ?_⟩⟩
  rcases Nat.lt_or_ge i es.length with hi | hi
  · exact hG2 _ (getD_mem hi)
  · show (es.getD i (0, 0, 0)).1 < 256 ∧ _
    rw [List.getD_eq_getElem?_getD, List.getElem?_eq_none hi]; decide
end

end Go.Proofs.YtaeelanbkdkppaaDoor

/-
  A drawn region of calls that wait for one another and allocations that come whenever they like: one walk of the calls, whatever the order.
-/
namespace Go.Proofs.YtaeelanbkdkppaaDoor
open Go.RowKit

theorem op_at {l r : List Oper} {i : Nat} {o : Oper} (h : l.drop i = o :: r) : l.toArray[i]? = some o := by
  have h2 : (l.drop i)[0]? = some o := by rw [h]; rfl
  rw [List.getElem?_drop] at h2
  simpa using h2

/-! what has come up, and what it left -/
/-! the one check of the region's order -/
structure Al where
  i : Nat
  d : Nat
  o : Obj
/-- the blocks that have been made: new, each with its object, no two the same -/
def AlOk (n : Nat) (w : World) : List Al → List (Option Nat) → Prop
  | x :: r, b :: bs => (∀ k, b = some k → w.heap[k]? = some x.o ∧ n ≤ k ∧ some k ∉ bs) ∧ AlOk n w r bs
  | _, _ => True
theorem AlOk.up {n : Nat} {w w' : World} {al : List Al} {bs : List (Option Nat)} (h : AlOk n w al bs) (hb : ∀ (i : Nat) (o : Obj), w.heap[i]? = some o → w'.heap[i]? = some o) : AlOk n w' al bs := by
  induction al generalizing bs with
  | nil => cases bs <;> trivial
  | cons x r ih =>
    cases bs with
    | nil => trivial
    | cons b bs => exact ⟨fun k hk => by obtain ⟨h1, h2⟩ := h.1 k hk; exact ⟨hb _ _ h1, h2⟩, ih h.2⟩
theorem AlOk.lt {n : Nat} {w : World} {al : List Al} {bs : List (Option Nat)} (h : AlOk n w al bs) (hl : bs.length = al.length) {k : Nat} (hk : some k ∈ bs) : k < w.heap.size := by
  induction al generalizing bs with
  | nil => cases bs with
    | nil => cases hk
    | cons _ _ => simp at hl
  | cons x r ih =>
    cases bs with
    | nil => cases hk
    | cons b bs =>
      rcases List.mem_cons.1 hk with e | hk
      · exact (Array.getElem?_eq_some_iff.1 (h.1 k e.symm).1).1
      · exact ih h.2 (by simpa using hl) hk
theorem mem_set_some {bs : List (Option Nat)} {j k : Nat} {b : Nat} (h : some k ∈ bs.set j (some b)) : k = b ∨ some k ∈ bs := by
  rcases List.mem_or_eq_of_mem_set h with h | h
  · exact .inr h
  · injection h with h; exact .inl h
theorem AlOk.on {n : Nat} {w w' : World} {al : List Al} {bs : List (Option Nat)} (h : AlOk n w al bs) (hl : bs.length = al.length) {j b : Nat} {x : Al} (hx : al[j]? = some x) (hj : bs[j]? = some none)
    (hb : ∀ (i : Nat) (o : Obj), w.heap[i]? = some o → w'.heap[i]? = some o) (h1 : w'.heap[b]? = some x.o) (h2 : n ≤ b) (h3 : ∀ k, some k ∈ bs → k ≠ b) : AlOk n w' al (bs.set j (some b)) := by
  induction al generalizing bs j with
  | nil => simp at hx
  | cons y r ih =>
    cases bs with
    | nil => simp at hj
    | cons c bs =>
      cases j with
      | zero =>
        simp only [List.getElem?_cons_zero, Option.some.injEq] at hx hj
        subst hx hj
        simp only [List.set_cons_zero]
        refine ⟨fun k hk => ?_, h.2.up hb⟩
        injection hk with hk
        subst hk
        exact ⟨h1, h2, fun hm => h3 _ (List.mem_cons_of_mem _ hm) rfl⟩
      | succ j =>
        simp only [List.getElem?_cons_succ] at hx hj
        simp only [List.set_cons_succ]
        refine ⟨fun k hk => ?_, ih h.2 (by simpa using hl) hx hj fun k hk => h3 k (List.mem_cons_of_mem _ hk)⟩
        obtain ⟨g1, g2, g3⟩ := h.1 k hk
        refine ⟨hb _ _ g1, g2, fun hm => ?_⟩
        rcases mem_set_some hm with e | hm
        · exact h3 k (by rw [hk]; exact List.mem_cons_self) e
        · exact g3 hm

section
variable {P : Program} {ops : Array Oper} {Q : Exit → Act → World → Prop} {md : Region.Mode} {S : World → Prop}

/-- A step of the chain: a value in every world that meets S, or a call. -/
def ChStep (P : Program) (ops : Array Oper) (Q : Exit → Act → World → Prop) (S : World → Prop) (F : Value → World → Prop) (pure : Bool) (i d : Nat) (a : Act) (w : World) : Prop :=
  if pure then ∃ o, ops[i]? = some o ∧ o.dst = some d ∧ ∃ v, YieldsIf P ops S o v a ∧ F v w
  else ∀ K : Act → World → Prop, (∀ v w', F v w' → Below w.heap.size w w' → K (a.put (some d) v) w') → wpOp P ops Q i K a w
theorem ChStep.pure {F : Value → World → Prop} {i d : Nat} {a : Act} {w : World} {o : Oper} {v : Value} (ho : ops[i]? = some o) (hd : o.dst = some d) (hg : Region.wanted o (yielded ops a.tmps) = true) (hv : ∀ w, S w → (execOp a.eval o).run P w = .ok (.value v) w) (hF : F v w) : ChStep P ops Q S F true i d a w := by
  unfold ChStep
  rw [if_pos rfl]
  exact ⟨o, ho, hd, v, .inl ⟨hg, hv⟩, hF⟩
theorem ChStep.call {F : Value → World → Prop} {i d : Nat} {a : Act} {w : World} {o : Oper} {f : FuncId} {xs : Array Operand} {ts : Array TypeId} {args : Array Value} (ho : ops[i]? = some o) (hd : o.dst = some d) (hg : Region.wanted o (yielded ops a.tmps) = true)
    (hop : o.op = .call { callee := .value (.func f), args := xs, argTypes := ts }) (hargs : xs.map a.eval = args) (hcf : (callFunc f args).run P w = .ok (.enter f args) w) (h : Calls P f args w fun e w' => (∃ v, e = .returned v ∧ F v w') ∧ Below w.heap.size w w') : ChStep P ops Q S F false i d a w := by
  unfold ChStep
  rw [if_neg (by simp)]
  intro K hK
  unfold wpOp
  simp only [ho, hg, if_true]
  refine .inl ?_
  unfold Oper.wp execOp
  simp only [hop, resolve, hargs, Act.eval, Deferred.ofValue, invoke, Sem.run_bind, Sem.run_pure, Result.andThen_ok, Array.empty_append, Array.append_empty, hcf, Oper.upon, hd]
  refine Calls.mono h ?_
  rintro e w' ⟨⟨v, rfl, hF⟩, hb⟩
  exact hK v w' hF hb

end

end Go.Proofs.YtaeelanbkdkppaaDoor

/-
  Drafts: Made of the reference. (Printed by mkmade2.py.)
-/
namespace Go.Proofs.YtaeelanbkdkppaaDoor
open Go.RowKit

/-- the draft's box, a cell that is read, all below the result -/
abbrev SM3 (w : World) (u v : Value) (w0 : World) (b o : Nat) (x y z : Value) (W : World) : Prop := ((W.cell? ⟨w.heap.size, 0, none⟩ = some u ∧ W.cell? ⟨w.heap.size, 1, none⟩ = some v) ∧ W.cell? ⟨b, o, none⟩ = some x ∧ W.cell? ⟨b, o + 1, none⟩ = some y ∧ W.cell? ⟨b, o + 2, none⟩ = some z) ∧ Below (w.heap.size + 2) w0 W
/-- the same with one cell -/
abbrev SM (w : World) (u v : Value) (w0 : World) (b o : Nat) (x : Value) (W : World) : Prop := ((W.cell? ⟨w.heap.size, 0, none⟩ = some u ∧ W.cell? ⟨w.heap.size, 1, none⟩ = some v) ∧ W.cell? ⟨b, o, none⟩ = some x) ∧ Below (w.heap.size + 2) w0 W
theorem OwnE.stored' {α : Type} {E : El α} {t : TypeId} {w : World} {base : Nat} {v : Value} {xs : List α} {a : Addr} (h : OwnE E t w base v xs) (ha : a.block < base) (u : Value) : OwnE E t (w.setCell a u) base v xs := ownsRow_setCell_below h ha u
theorem alloc3 (w : World) (o1 o2 o3 : Obj) : (((w.alloc o1).alloc o2).alloc o3).heap[w.heap.size]? = some o1 ∧ (((w.alloc o1).alloc o2).alloc o3).heap[w.heap.size + 1]? = some o2 ∧ (((w.alloc o1).alloc o2).alloc o3).heap[w.heap.size + 2]? = some o3 ∧ Below w.heap.size w (((w.alloc o1).alloc o2).alloc o3) ∧ (((w.alloc o1).alloc o2).alloc o3).heap.size = w.heap.size + 3 := by
  have h1 := heap_two w o1 o2
  have h2 := heap_two' w o1 o2
  have hs : ((w.alloc o1).alloc o2).heap.size = w.heap.size + 2 := by simp
  have h3 := heap_alloc_new ((w.alloc o1).alloc o2) o3
  rw [hs] at h3
  have hb := below_a ((w.alloc o1).alloc o2) o3
  exact ⟨heap_up hb h1, heap_up hb h2, h3, ((Below.refl _ _).alloc (Nat.le_refl _) _).alloc (by simp) _ |>.trans (hb.mono (by simp; omega)), by simp⟩
set_option maxRecDepth 100000 in
set_option maxHeartbeats 8000000 in
theorem made_any (d : Dr) (An : Option Addr) (cn : Nat) (Ae : Option Addr) (ce : Nat) (w : World) (hT : DrAt w An cn Ae ce d) :
    Calls Tryd.prog 58 #[gval An d.ns.length cn Ae d.es.length ce] w fun e w' => (∃ v, e = .returned v ∧ IsG w' v (madeG d)) ∧ Below w.heap.size w w' := by
  obtain ⟨w0, hw0⟩ : ∃ w0, w0 = ((w.alloc (.cells #[.slice An d.ns.length cn, .slice Ae d.es.length ce] 56 (0, 0))).alloc (.cells #[.slice none 0 0, .slice none 0 0] 25 (0, 0))).alloc (.cells #[.slice none 0 0, .slice none 0 0] 25 (0, 0)) := ⟨_, rfl⟩
  obtain ⟨h1, h2, h3, hb0, hs0⟩ := alloc3 w (.cells #[.slice An d.ns.length cn, .slice Ae d.es.length ce] 56 (0, 0)) (.cells #[.slice none 0 0, .slice none 0 0] 25 (0, 0)) (.cells #[.slice none 0 0, .slice none 0 0] 25 (0, 0))
  rw [← hw0] at h1 h2 h3 hb0 hs0
  have HD := Lib.hid (fun W (h : Below (w.heap.size + 2) w0 W) => cell2 ((h.block w.heap.size (by omega)).trans h1))
  have HR := Lib.hid (fun W (h : Below (w.heap.size + 2) w0 W) => (show Blk (w.heap.size + 1) 25 W from ⟨_, _, (h.block (w.heap.size + 1) (by omega)).trans h2⟩))
  have HW := Lib.hid (fun W (h : Below (w.heap.size + 2) w0 W) => hb0.trans (h.mono (by omega)))
  have HZ := Lib.hid (fun W (h : Below (w.heap.size + 2) w0 W) => show w.heap.size + 3 ≤ W.heap.size by have := h.size; omega)
  have HB0 : Hid (BoxIs (w.heap.size + 2) (.slice none 0 0) (.slice none 0 0) 25 w0) := Lib.hid h3
  have HT := Lib.hid hT
  have HS0 := Lib.hid hs0
  obtain ⟨n1, n2⟩ := drN_le d
  obtain ⟨m1, m2⟩ := drM_le d
  have HN : Hid (drN d = min d.ns.length 8) := Lib.hid rfl
  have HM : Hid (drM d = if drN d = 0 then 0 else min d.es.length 10) := Lib.hid rfl
  have HNL := Lib.hid (nsT_len d)
  have HEL := Lib.hid (esT_len d)
  have HNS : Hid (∀ k, nsT d (k + 1) = nsT d k ++ [ndM d k]) := Lib.hid fun k => rfl
  have HES : Hid (∀ k, esT d (k + 1) = esT d k ++ [edM d k]) := Lib.hid fun k => rfl
  have HN0 : Hid (nsT d 0 = []) := Lib.hid rfl
  have HE0 : Hid (esT d 0 = []) := Lib.hid rfl
  have HMG : Hid (madeG d = ⟨nsT d (drN d), esT d (drM d)⟩) := Lib.hid rfl
  have HOK := Lib.hid hT.ok
  have lc1 := hT.cn
  have lc2 := hT.ce
  unfold maxLen at lc1 lc2
  clear hT h1 h2 h3 hb0 hs0
  go_enter Tryd.func58, Tryd.ntmps58
  go_wp2_with fail
  rw [← hw0]
  clear hw0
  go_loopw [4] (fun vi wr => ∃ (i : Nat) (va : Value), i ≤ drN d ∧ vi = .int .i64 i ∧ BoxIs (w.heap.size + 2) va (.slice none 0 0) 25 wr ∧ OwnI wr (w.heap.size + 3) va (nsT d i) ∧ Below (w.heap.size + 2) w0 wr) (fun vi _ => drN d - (intOf vi).toNat)
  case atStart => exact ⟨0, _, Nat.zero_le _, rfl, HB0.out, by rw [HN0.out]; exact OwnE.nil _ _ _, Below.refl _ _⟩
  case round =>
    clear HB0
    obtain ⟨i, va, hi, rfl, hbl, hown, hbel⟩ := hrel
    have HG := Lib.hid hbel
    have HBL := Lib.hid hbl
    obtain ⟨aa, ca, rfl⟩ := OwnE.slice hown
    have HO := Lib.hid hown
    have hzr := HZ.out _ hbel
    obtain ⟨c0, c1⟩ := HD.out _ hbel
    clear hbl hown hbel
    have y0 : w.heap.size < wr.heap.size := by omega
    by_cases hlt : i < drN d
    · have hn := HN.out
      have t1 : decide (i < d.ns.length) = true := decide_eq_true (by omega)
      have t2 : decide ((i : Int) < 8) = true := decide_eq_true (by omega)
      obtain ⟨bb, off, rfl, hbb, hc⟩ := byte_at (Reads.below HT.out.ns (HW.out _ HG.out)) (k := i) (by omega)
      have hx := HOK.out.1 i
      have hle : (nsT d i).length ≤ 8 := by rw [HNL.out]; omega
      have HE2 := Lib.hid (HNS.out i)
      have i0 : (0 : Int) ≤ (i : Int) := by omega
      have i1 : (i : Int) < (d.ns.length : Int) := by omega
      have i2 : ((i : Int)).toNat = i := by omega
      have hbb9 : bb < w.heap.size + 2 := by omega
      have hnd : ndM d i = ((d.ns.getD i 0 : Nat) : Int) % 3 := by unfold ndM; omega
      rw [hnd] at HE2
      clear hn hnd
      generalize d.ns.getD i 0 = x at *
      have m1 := Int.emod_nonneg (x : Int) (show (3 : Int) ≠ 0 by omega)
      have m2 := Int.emod_lt_of_pos (x : Int) (show (0 : Int) < 3 by omega)
      have hmt : Int.tmod (x : Int) 3 = (x : Int) % 3 := Int.tmod_eq_emod_of_nonneg (by omega)
      generalize (x : Int) % 3 = m at *
      have hmw : IntKind.i64.wrap m = m := IntWalk.i64_in _ (by omega)
      have HS := Lib.hid (fun W (h : Below (w.heap.size + 2) w0 W) => show SM w (.slice (some ⟨bb, off, none⟩) d.ns.length cn) (.slice Ae d.es.length ce) w0 bb (off + i) (.int .u8 (x : Int)) W from ⟨⟨HD.out W h, by
        have e1 := HG.out.cell (p := ⟨bb, off + i, none⟩) hbb9
        have e2 := h.cell (p := ⟨bb, off + i, none⟩) hbb9
        rw [e2, ← e1]; exact hc⟩, h⟩)
      clear hc
      go_wp2_with fail
      clear t1 t2 c0 c1
      refine wp_region_noPanic ?_
      refine wp_region_held_drew (S := SM w (.slice (some ⟨bb, off, none⟩) d.ns.length cn) (.slice Ae d.es.length ce) w0 bb (off + i) (.int .u8 (x : Int))) (by kernel_rfl) (HS.out _ (HG.out.drew)) (fun hHeld => ?_)
      refine wpAnyH_take (i := 0) (v := ?_) (op_at (r := _) rfl) (by kernel_rfl) (by kernel_rfl) (by kernel_rfl) (fun _ _ _ h => h) (Or.inl ⟨by rfl, ?_⟩) (by assumption) ?_
      rotate_left
      · intro W2 hSw
        obtain ⟨⟨⟨s0, s1⟩, s2⟩, _⟩ := hSw
        go_simp
        try with_reducible rfl
      try simp only [Act.put, List.setIfInBounds_toArray, List.set_cons_zero, List.set_cons_succ]
      refine wpAnyH_take (i := 2) (v := ?_) (op_at (r := _) rfl) (by kernel_rfl) (by kernel_rfl) (by kernel_rfl) (fun _ _ _ h => h) (Or.inl ⟨by rfl, ?_⟩) (by assumption) ?_
      rotate_left
      · intro W2 hSw
        obtain ⟨⟨⟨s0, s1⟩, s2⟩, _⟩ := hSw
        go_simp
        try with_reducible rfl
      try simp only [Act.put, List.setIfInBounds_toArray, List.set_cons_zero, List.set_cons_succ]
      refine wpAnyH_take (i := 4) (v := ?_) (op_at (r := _) rfl) (by kernel_rfl) (by kernel_rfl) (by kernel_rfl) (fun _ _ _ h => h) (Or.inl ⟨by rfl, ?_⟩) (by assumption) ?_
      rotate_left
      · intro W2 hSw
        obtain ⟨⟨⟨s0, s1⟩, s2⟩, _⟩ := hSw
        go_simp
        try with_reducible rfl
      try simp only [Act.put, List.setIfInBounds_toArray, List.set_cons_zero, List.set_cons_succ]
      refine wpAnyH_take (i := 3) (v := ?_) (op_at (r := _) rfl) (by kernel_rfl) (by kernel_rfl) (by kernel_rfl) (fun _ _ _ h => h) (Or.inl ⟨by rfl, ?_⟩) (by assumption) ?_
      rotate_left
      · intro W2 hSw
        obtain ⟨⟨⟨s0, s1⟩, s2⟩, _⟩ := hSw
        go_simp
        try with_reducible rfl
      try simp only [Act.put, List.setIfInBounds_toArray, List.set_cons_zero, List.set_cons_succ]
      refine wpAnyH_take (i := 5) (v := ?_) (op_at (r := _) rfl) (by kernel_rfl) (by kernel_rfl) (by kernel_rfl) (fun _ _ _ h => h) (Or.inl ⟨by rfl, ?_⟩) (by assumption) ?_
      rotate_left
      · intro W2 hSw
        obtain ⟨⟨⟨s0, s1⟩, s2⟩, _⟩ := hSw
        go_simp
        try with_reducible rfl
      try simp only [Act.put, List.setIfInBounds_toArray, List.set_cons_zero, List.set_cons_succ]
      refine wpAnyH_take (i := 6) (v := ?_) (op_at (r := _) rfl) (by kernel_rfl) (by kernel_rfl) (by kernel_rfl) (fun _ _ _ h => h) (Or.inl ⟨by rfl, ?_⟩) (by assumption) ?_
      rotate_left
      · intro W2 hSw
        obtain ⟨⟨⟨s0, s1⟩, s2⟩, _⟩ := hSw
        go_simp
        try with_reducible rfl
      try simp only [Act.put, List.setIfInBounds_toArray, List.set_cons_zero, List.set_cons_succ]
      refine wpAnyH_take (i := 7) (v := ?_) (op_at (r := _) rfl) (by kernel_rfl) (by kernel_rfl) (by kernel_rfl) (fun _ _ _ h => h) (Or.inl ⟨by rfl, ?_⟩) (by assumption) ?_
      rotate_left
      · intro W2 hSw
        obtain ⟨⟨⟨s0, s1⟩, s2⟩, _⟩ := hSw
        go_simp
        try with_reducible rfl
      try simp only [Act.put, List.setIfInBounds_toArray, List.set_cons_zero, List.set_cons_succ]
      refine wpAnyH_take (i := 8) (v := ?_) (op_at (r := _) rfl) (by kernel_rfl) (by kernel_rfl) (by kernel_rfl) (fun _ _ _ h => h) (Or.inl ⟨by rfl, ?_⟩) (by assumption) ?_
      rotate_left
      · intro W2 hSw
        obtain ⟨⟨⟨s0, s1⟩, s2⟩, _⟩ := hSw
        go_simp
        try with_reducible rfl
      try simp only [Act.put, List.setIfInBounds_toArray, List.set_cons_zero, List.set_cons_succ]
      have hbx := below_ad wr (.cells #[.int .i64 m] 3 (0, 0))
      have HGX := Lib.hid (HG.out.trans (hbx.mono (show w.heap.size + 2 ≤ wr.heap.size by omega)))
      have HBX := Lib.hid (HBL.out.up hbx)
      have HOX := Lib.hid (OwnE.below HO.out hbx (Nat.le_refl _))
      have hnx : (wr.alloc (.cells #[.int .i64 m] 3 (0, 0))).drew.heap[wr.heap.size]? = some (.cells #[.int .i64 m] 3 (0, 0)) := heap_alloc_new wr _
      have HXX := Lib.hid hnx
      have hxs : wr.heap.size < (wr.alloc (.cells #[.int .i64 m] 3 (0, 0))).drew.heap.size := by simp
      have hy3 : w.heap.size + 2 < wr.heap.size := by omega
      obtain ⟨b0, b1⟩ := HBL.out.cells
      clear hbx hnx
      refine wpAnyH_ready (rs := [1, 9]) (by kernel_rfl) (by simp) ?_
      refine AllReadyH.cons (op_at (r := _) rfl) (fun K hK => ?_) (AllReadyH.cons (op_at (r := _) rfl) (fun K hK => ?_) AllReadyH.nil)
      · go_simp
        refine hK.out _ _ (by assumption) (fun hHeld => ?_)
        clear hK K
        try simp only [Act.put, List.setIfInBounds_toArray, List.set_cons_zero, List.set_cons_succ]
        refine wpAnyH_ready (rs := [9]) (by kernel_rfl) (by simp) ?_
        refine AllReadyH.cons (op_at (r := _) rfl) (fun K hK => ?_) AllReadyH.nil
        go_simp
        refine hK.out _ _ (HS.out _ HGX.out) (fun hHeld => ?_)
        clear hK K
        try simp only [Act.put, List.setIfInBounds_toArray, List.set_cons_zero, List.set_cons_succ]
        generalize (wr.alloc (.cells #[.int .i64 m] 3 (0, 0))).drew = wx at *
        refine wpAnyH_ready (rs := [10]) (by kernel_rfl) (by simp) ?_
        refine AllReadyH.cons (op_at (r := _) rfl) (fun K hK => ?_) AllReadyH.nil
        refine step_append_G (E := EInt) (by rfl) _ _ 22 3 (by rfl) Tryd.underlying22 infoInt rfl (by decide) (by decide) (w.heap.size + 3) (.slice aa (nsT d i).length ca) (nsT d i) (by rfl) HOX.out ⟨wr.heap.size, 0, none⟩ 1 m (by rfl) (new_int HXX.out) (by omega) (by omega) ?_
        intro v8 w8 ho8 hg8
        rw [← HE2.out] at ho8
        obtain ⟨a8, c8, rfl⟩ := OwnE.slice ho8
        have HB8 := Lib.hid (HBX.out.grow (by decide) hg8)
        have HO8 := Lib.hid ho8
        have HG8 := Lib.hid (HGX.out.trans (hg8.1.mono (by omega)))
        have hz8 := HZ.out _ HG8.out
        have y8 : w.heap.size + 2 < w8.heap.size := by omega
        clear ho8 hg8 b0 b1
        obtain ⟨b0, b1⟩ := HB8.out.cells
        have bf := HB8.out.free 0
        refine hK.out _ _ (HS.out _ HG8.out) (fun hHeld => ?_)
        clear hK K
        try simp only [Act.put, List.setIfInBounds_toArray, List.set_cons_zero, List.set_cons_succ]
        refine wpAnyH_take (i := 11) (v := ?_) (op_at (r := _) rfl) (by kernel_rfl) (by kernel_rfl) (by kernel_rfl) (fun _ _ _ h => h) (Or.inl ⟨by rfl, ?_⟩) (by assumption) ?_
        rotate_left
        · intro W2 hSw
          obtain ⟨⟨⟨s0, s1⟩, s2⟩, _⟩ := hSw
          go_simp
          try with_reducible rfl
        try simp only [Act.put, List.setIfInBounds_toArray, List.set_cons_zero, List.set_cons_succ]
        refine wpAnyH_ready (rs := [12]) (by kernel_rfl) (by simp) ?_
        refine AllReadyH.cons (op_at (r := _) rfl) (fun K hK => ?_) AllReadyH.nil
        go_simp
        refine hK.out _ _ (HS.out _ (HG8.out.setCell (p := ⟨w.heap.size + 2, 0, none⟩) (Nat.le_refl _) _)) (fun hHeld => ?_)
        clear hK K
        try simp only [Act.put, List.setIfInBounds_toArray, List.set_cons_zero, List.set_cons_succ]
        refine wpAnyH_done (by kernel_rfl) ?_ _
        refine NoPanic.normal ?_
        go_wp2_with fail
        go_roundw
        case rel => exact ⟨i + 1, _, by omega, by go_num, HB8.out.set0 _, OwnE.setBox HO8.out HB8.out (by decide) 0, HG8.out.setCell (p := ⟨w.heap.size + 2, 0, none⟩) (Nat.le_refl _) _⟩
        case measure => simp [intOf]; omega
      · go_simp
        refine hK.out _ _ (HS.out _ HGX.out) (fun hHeld => ?_)
        clear hK K
        try simp only [Act.put, List.setIfInBounds_toArray, List.set_cons_zero, List.set_cons_succ]
        refine wpAnyH_ready (rs := [1]) (by kernel_rfl) (by simp) ?_
        refine AllReadyH.cons (op_at (r := _) rfl) (fun K hK => ?_) AllReadyH.nil
        go_simp
        refine hK.out _ _ (by assumption) (fun hHeld => ?_)
        clear hK K
        try simp only [Act.put, List.setIfInBounds_toArray, List.set_cons_zero, List.set_cons_succ]
        generalize (wr.alloc (.cells #[.int .i64 m] 3 (0, 0))).drew = wx at *
        refine wpAnyH_ready (rs := [10]) (by kernel_rfl) (by simp) ?_
        refine AllReadyH.cons (op_at (r := _) rfl) (fun K hK => ?_) AllReadyH.nil
        refine step_append_G (E := EInt) (by rfl) _ _ 22 3 (by rfl) Tryd.underlying22 infoInt rfl (by decide) (by decide) (w.heap.size + 3) (.slice aa (nsT d i).length ca) (nsT d i) (by rfl) HOX.out ⟨wr.heap.size, 0, none⟩ 1 m (by rfl) (new_int HXX.out) (by omega) (by omega) ?_
        intro v8 w8 ho8 hg8
        rw [← HE2.out] at ho8
        obtain ⟨a8, c8, rfl⟩ := OwnE.slice ho8
        have HB8 := Lib.hid (HBX.out.grow (by decide) hg8)
        have HO8 := Lib.hid ho8
        have HG8 := Lib.hid (HGX.out.trans (hg8.1.mono (by omega)))
        have hz8 := HZ.out _ HG8.out
        have y8 : w.heap.size + 2 < w8.heap.size := by omega
        clear ho8 hg8 b0 b1
        obtain ⟨b0, b1⟩ := HB8.out.cells
        have bf := HB8.out.free 0
        refine hK.out _ _ (HS.out _ HG8.out) (fun hHeld => ?_)
        clear hK K
        try simp only [Act.put, List.setIfInBounds_toArray, List.set_cons_zero, List.set_cons_succ]
        refine wpAnyH_take (i := 11) (v := ?_) (op_at (r := _) rfl) (by kernel_rfl) (by kernel_rfl) (by kernel_rfl) (fun _ _ _ h => h) (Or.inl ⟨by rfl, ?_⟩) (by assumption) ?_
        rotate_left
        · intro W2 hSw
          obtain ⟨⟨⟨s0, s1⟩, s2⟩, _⟩ := hSw
          go_simp
          try with_reducible rfl
        try simp only [Act.put, List.setIfInBounds_toArray, List.set_cons_zero, List.set_cons_succ]
        refine wpAnyH_ready (rs := [12]) (by kernel_rfl) (by simp) ?_
        refine AllReadyH.cons (op_at (r := _) rfl) (fun K hK => ?_) AllReadyH.nil
        go_simp
        refine hK.out _ _ (HS.out _ (HG8.out.setCell (p := ⟨w.heap.size + 2, 0, none⟩) (Nat.le_refl _) _)) (fun hHeld => ?_)
        clear hK K
        try simp only [Act.put, List.setIfInBounds_toArray, List.set_cons_zero, List.set_cons_succ]
        refine wpAnyH_done (by kernel_rfl) ?_ _
        refine NoPanic.normal ?_
        go_wp2_with fail
        go_roundw
        case rel => exact ⟨i + 1, _, by omega, by go_num, HB8.out.set0 _, OwnE.setBox HO8.out HB8.out (by decide) 0, HG8.out.setCell (p := ⟨w.heap.size + 2, 0, none⟩) (Nat.le_refl _) _⟩
        case measure => simp [intOf]; omega
    · have e : i = drN d := by omega
      subst e
      have hd : decide (drN d < d.ns.length) = false ∨ (decide (drN d < d.ns.length) = true ∧ decide ((drN d : Int) < 8) = false) := by
        have hn := HN.out
        by_cases h : drN d < d.ns.length
        · exact .inr ⟨decide_eq_true h, decide_eq_false (by omega)⟩
        · exact .inl (decide_eq_false h)
      go_upto_region 3 with (fail)
      go_cut [15] (fun u wx => u = .bool false ∧ wx = wr)
      case first =>
        rcases hd with t1 | ⟨t1, t2⟩
        all_goals
          go_wp2_with fail
          go_meet
          exact ⟨rfl, rfl⟩
      case rest =>
        obtain ⟨rfl, rfl⟩ := hcut
        clear hd c0 c1 y0 hlt hi
        obtain ⟨nn, hnn⟩ : ∃ nn, nn = nsT d (drN d) := ⟨_, rfl⟩
        rw [← hnn] at HO HBL HMG
        have HNN := Lib.hid (show nn.length = drN d by rw [hnn]; exact HNL.out _)
        have l8 : nn.length ≤ 8 := by rw [HNN.out]; omega
        clear hnn HNS HN0 HNL
        obtain ⟨b0, b1⟩ := HBL.out.cells
        have y2 : w.heap.size + 2 < wc.heap.size := by omega
        go_wp2_with fail
        clear b0 b1 y2 hzr
        go_loopw [6] (fun vi wr => ∃ (j : Nat) (vb : Value), j ≤ drM d ∧ vi = .int .i64 j ∧ BoxIs (w.heap.size + 2) (.slice aa nn.length ca) vb 25 wr ∧ OwnI wr (w.heap.size + 3) (.slice aa nn.length ca) nn ∧ OwnEd wr (w.heap.size + 3) vb (esT d j) ∧ Below (w.heap.size + 2) w0 wr) (fun vi _ => drM d - (intOf vi).toNat)
        case atStart => exact ⟨0, _, Nat.zero_le _, rfl, HBL.out, HO.out, by rw [HE0.out]; exact OwnE.nil _ _ _, HG.out⟩
        case round =>
          clear HBL HO HG
          obtain ⟨j, vb, hj, rfl, hbl, hownN, hown, hbel⟩ := hrel
          have HG := Lib.hid hbel
          have HBL := Lib.hid hbl
          obtain ⟨ab, cb, rfl⟩ := OwnE.slice hown
          have HO := Lib.hid hown
          have HON := Lib.hid hownN
          have hzr := HZ.out _ hbel
          obtain ⟨c0, c1⟩ := HD.out _ hbel
          clear hbl hown hownN hbel
          have y0 : w.heap.size < wr.heap.size := by omega
          by_cases hlt : j < drM d
          · have hn := HM.out
            have hnp : 0 < nn.length := by
              rw [HNN.out]
              rcases Nat.eq_zero_or_pos (drN d) with h | h
              · rw [if_pos h] at hn; omega
              · exact h
            have hn0 : drN d ≠ 0 := by rw [← HNN.out]; omega
            rw [if_neg hn0] at hn
            have t1 : decide (j < d.es.length) = true := decide_eq_true (by omega)
            have t2 : decide ((j : Int) < 10) = true := decide_eq_true (by omega)
            obtain ⟨bb, off, rfl, hbb, hc0, hc1, hc2⟩ := b3_at (Reads.below HT.out.es (HW.out _ HG.out)) (k := j) (by omega)
            have hle : (esT d j).length ≤ 10 := by rw [HEL.out]; omega
            have HE2 := Lib.hid (HES.out j)
            have i0 : (0 : Int) ≤ (j : Int) := by omega
            have i1 : (j : Int) < (d.es.length : Int) := by omega
            have i2 : ((j : Int)).toNat = j := by omega
            have hbb9 : bb < w.heap.size + 2 := by omega
            obtain ⟨x0, x1, x2⟩ := HOK.out.2 j
            have hed : edM d j = ⟨((d.es.getD j (0, 0, 0)).1 : Int) % 2, ((d.es.getD j (0, 0, 0)).2.1 : Int) % (nn.length : Int), ((d.es.getD j (0, 0, 0)).2.2 : Int) % (nn.length : Int)⟩ := by
              unfold edM
              rw [HNN.out]
              simp
            rw [hed] at HE2
            clear hn hed hn0
            generalize d.es.getD j (0, 0, 0) = x at *
            obtain ⟨q0, q1, q2⟩ := x
            dsimp only at hc0 hc1 hc2 x0 x1 x2 HE2
            have hm0 : Int.tmod (q0 : Int) 2 = (q0 : Int) % 2 := Int.tmod_eq_emod_of_nonneg (by omega)
            have hm1 : Int.tmod (q1 : Int) (nn.length : Int) = (q1 : Int) % (nn.length : Int) := Int.tmod_eq_emod_of_nonneg (by omega)
            have hm2 : Int.tmod (q2 : Int) (nn.length : Int) = (q2 : Int) % (nn.length : Int) := Int.tmod_eq_emod_of_nonneg (by omega)
            have a0 := Int.emod_nonneg (q0 : Int) (show (2 : Int) ≠ 0 by omega)
            have a1 := Int.emod_lt_of_pos (q0 : Int) (show (0 : Int) < 2 by omega)
            generalize (q0 : Int) % 2 = e0 at *
            generalize (q1 : Int) % (nn.length : Int) = e1 at *
            generalize (q2 : Int) % (nn.length : Int) = e2 at *
            have hw0 : IntKind.i64.wrap e0 = e0 := IntWalk.i64_in _ (by omega)
            have hw1 : IntKind.i64.wrap (q1 : Int) = (q1 : Int) := IntWalk.i64_in _ (by omega)
            have hw2 : IntKind.i64.wrap (q2 : Int) = (q2 : Int) := IntWalk.i64_in _ (by omega)
            have HS := Lib.hid (fun W (h : Below (w.heap.size + 2) w0 W) => show SM3 w (.slice An d.ns.length cn) (.slice (some ⟨bb, off, none⟩) d.es.length ce) w0 bb (off + j * 3) (.int .u8 (q0 : Int)) (.int .u8 (q1 : Int)) (.int .u8 (q2 : Int)) W from ⟨⟨HD.out W h, by
              have g1 := HG.out.cell (p := ⟨bb, off + j * 3, none⟩) hbb9
              have g2 := h.cell (p := ⟨bb, off + j * 3, none⟩) hbb9
              rw [g2, ← g1]; exact hc0, by
              have g1 := HG.out.cell (p := ⟨bb, off + j * 3 + 1, none⟩) hbb9
              have g2 := h.cell (p := ⟨bb, off + j * 3 + 1, none⟩) hbb9
              rw [g2, ← g1]; exact hc1, by
              have g1 := HG.out.cell (p := ⟨bb, off + j * 3 + 2, none⟩) hbb9
              have g2 := h.cell (p := ⟨bb, off + j * 3 + 2, none⟩) hbb9
              rw [g2, ← g1]; exact hc2⟩, h⟩)
            clear hc0 hc1 hc2
            have hne : ¬ nn = [] := fun e => by rw [e] at hnp; simp at hnp
            go_wp2_with fail
            clear t1 t2 c0 c1
            refine wp_region_noPanic ?_
            refine wp_region_held_drew (S := SM3 w (.slice An d.ns.length cn) (.slice (some ⟨bb, off, none⟩) d.es.length ce) w0 bb (off + j * 3) (.int .u8 (q0 : Int)) (.int .u8 (q1 : Int)) (.int .u8 (q2 : Int))) (by kernel_rfl) (HS.out _ (HG.out.drew)) (fun hHeld => ?_)
            refine wpAnyH_take (i := 0) (v := ?_) (op_at (r := _) rfl) (by kernel_rfl) (by kernel_rfl) (by kernel_rfl) (fun _ _ _ h => h) (Or.inl ⟨by rfl, ?_⟩) (by assumption) ?_
            rotate_left
            · intro W2 hSw
              obtain ⟨⟨⟨s0, s1⟩, s2, s3, s4⟩, _⟩ := hSw
              go_simp
              try with_reducible rfl
            try simp only [Act.put, List.setIfInBounds_toArray, List.set_cons_zero, List.set_cons_succ]
            refine wpAnyH_take (i := 2) (v := ?_) (op_at (r := _) rfl) (by kernel_rfl) (by kernel_rfl) (by kernel_rfl) (fun _ _ _ h => h) (Or.inl ⟨by rfl, ?_⟩) (by assumption) ?_
            rotate_left
            · intro W2 hSw
              obtain ⟨⟨⟨s0, s1⟩, s2, s3, s4⟩, _⟩ := hSw
              go_simp
              try with_reducible rfl
            try simp only [Act.put, List.setIfInBounds_toArray, List.set_cons_zero, List.set_cons_succ]
            refine wpAnyH_take (i := 4) (v := ?_) (op_at (r := _) rfl) (by kernel_rfl) (by kernel_rfl) (by kernel_rfl) (fun _ _ _ h => h) (Or.inl ⟨by rfl, ?_⟩) (by assumption) ?_
            rotate_left
            · intro W2 hSw
              obtain ⟨⟨⟨s0, s1⟩, s2, s3, s4⟩, _⟩ := hSw
              go_simp
              try with_reducible rfl
            try simp only [Act.put, List.setIfInBounds_toArray, List.set_cons_zero, List.set_cons_succ]
            refine wpAnyH_take (i := 3) (v := ?_) (op_at (r := _) rfl) (by kernel_rfl) (by kernel_rfl) (by kernel_rfl) (fun _ _ _ h => h) (Or.inl ⟨by rfl, ?_⟩) (by assumption) ?_
            rotate_left
            · intro W2 hSw
              obtain ⟨⟨⟨s0, s1⟩, s2, s3, s4⟩, _⟩ := hSw
              go_simp
              try with_reducible rfl
            try simp only [Act.put, List.setIfInBounds_toArray, List.set_cons_zero, List.set_cons_succ]
            refine wpAnyH_take (i := 5) (v := ?_) (op_at (r := _) rfl) (by kernel_rfl) (by kernel_rfl) (by kernel_rfl) (fun _ _ _ h => h) (Or.inl ⟨by rfl, ?_⟩) (by assumption) ?_
            rotate_left
            · intro W2 hSw
              obtain ⟨⟨⟨s0, s1⟩, s2, s3, s4⟩, _⟩ := hSw
              go_simp
              try with_reducible rfl
            try simp only [Act.put, List.setIfInBounds_toArray, List.set_cons_zero, List.set_cons_succ]
            refine wpAnyH_take (i := 6) (v := ?_) (op_at (r := _) rfl) (by kernel_rfl) (by kernel_rfl) (by kernel_rfl) (fun _ _ _ h => h) (Or.inl ⟨by rfl, ?_⟩) (by assumption) ?_
            rotate_left
            · intro W2 hSw
              obtain ⟨⟨⟨s0, s1⟩, s2, s3, s4⟩, _⟩ := hSw
              go_simp
              try with_reducible rfl
            try simp only [Act.put, List.setIfInBounds_toArray, List.set_cons_zero, List.set_cons_succ]
            refine wpAnyH_take (i := 7) (v := ?_) (op_at (r := _) rfl) (by kernel_rfl) (by kernel_rfl) (by kernel_rfl) (fun _ _ _ h => h) (Or.inl ⟨by rfl, ?_⟩) (by assumption) ?_
            rotate_left
            · intro W2 hSw
              obtain ⟨⟨⟨s0, s1⟩, s2, s3, s4⟩, _⟩ := hSw
              go_simp
              try with_reducible rfl
            try simp only [Act.put, List.setIfInBounds_toArray, List.set_cons_zero, List.set_cons_succ]
            refine wpAnyH_take (i := 8) (v := ?_) (op_at (r := _) rfl) (by kernel_rfl) (by kernel_rfl) (by kernel_rfl) (fun _ _ _ h => h) (Or.inl ⟨by rfl, ?_⟩) (by assumption) ?_
            rotate_left
            · intro W2 hSw
              obtain ⟨⟨⟨s0, s1⟩, s2, s3, s4⟩, _⟩ := hSw
              go_simp
              try with_reducible rfl
            try simp only [Act.put, List.setIfInBounds_toArray, List.set_cons_zero, List.set_cons_succ]
            refine wpAnyH_take (i := 9) (v := ?_) (op_at (r := _) rfl) (by kernel_rfl) (by kernel_rfl) (by kernel_rfl) (fun _ _ _ h => h) (Or.inl ⟨by rfl, ?_⟩) (by assumption) ?_
            rotate_left
            · intro W2 hSw
              obtain ⟨⟨⟨s0, s1⟩, s2, s3, s4⟩, _⟩ := hSw
              go_simp
              try with_reducible rfl
            try simp only [Act.put, List.setIfInBounds_toArray, List.set_cons_zero, List.set_cons_succ]
            refine wpAnyH_take (i := 10) (v := ?_) (op_at (r := _) rfl) (by kernel_rfl) (by kernel_rfl) (by kernel_rfl) (fun _ _ _ h => h) (Or.inl ⟨by rfl, ?_⟩) (by assumption) ?_
            rotate_left
            · intro W2 hSw
              obtain ⟨⟨⟨s0, s1⟩, s2, s3, s4⟩, _⟩ := hSw
              go_simp
              try with_reducible rfl
            try simp only [Act.put, List.setIfInBounds_toArray, List.set_cons_zero, List.set_cons_succ]
            refine wpAnyH_take (i := 12) (v := ?_) (op_at (r := _) rfl) (by kernel_rfl) (by kernel_rfl) (by kernel_rfl) (fun _ _ _ h => h) (Or.inl ⟨by rfl, ?_⟩) (by assumption) ?_
            rotate_left
            · intro W2 hSw
              obtain ⟨⟨⟨s0, s1⟩, s2, s3, s4⟩, _⟩ := hSw
              go_simp
              try with_reducible rfl
            try simp only [Act.put, List.setIfInBounds_toArray, List.set_cons_zero, List.set_cons_succ]
            refine wpAnyH_take (i := 11) (v := ?_) (op_at (r := _) rfl) (by kernel_rfl) (by kernel_rfl) (by kernel_rfl) (fun _ _ _ h => h) (Or.inl ⟨by rfl, ?_⟩) (by assumption) ?_
            rotate_left
            · intro W2 hSw
              obtain ⟨⟨⟨s0, s1⟩, s2, s3, s4⟩, _⟩ := hSw
              go_simp
              try with_reducible rfl
            try simp only [Act.put, List.setIfInBounds_toArray, List.set_cons_zero, List.set_cons_succ]
            refine wpAnyH_take (i := 13) (v := ?_) (op_at (r := _) rfl) (by kernel_rfl) (by kernel_rfl) (by kernel_rfl) (fun _ _ _ h => h) (Or.inl ⟨by rfl, ?_⟩) (by assumption) ?_
            rotate_left
            · intro W2 hSw
              obtain ⟨⟨⟨s0, s1⟩, s2, s3, s4⟩, _⟩ := hSw
              go_simp
              try with_reducible rfl
            try simp only [Act.put, List.setIfInBounds_toArray, List.set_cons_zero, List.set_cons_succ]
            refine wpAnyH_take (i := 14) (v := ?_) (op_at (r := _) rfl) (by kernel_rfl) (by kernel_rfl) (by kernel_rfl) (fun _ _ _ h => h) (Or.inl ⟨by rfl, ?_⟩) (by assumption) ?_
            rotate_left
            · intro W2 hSw
              obtain ⟨⟨⟨s0, s1⟩, s2, s3, s4⟩, _⟩ := hSw
              go_simp
              try with_reducible rfl
            try simp only [Act.put, List.setIfInBounds_toArray, List.set_cons_zero, List.set_cons_succ]
            refine wpAnyH_take (i := 15) (v := ?_) (op_at (r := _) rfl) (by kernel_rfl) (by kernel_rfl) (by kernel_rfl) (fun _ _ _ h => h) (Or.inl ⟨by rfl, ?_⟩) (by assumption) ?_
            rotate_left
            · intro W2 hSw
              obtain ⟨⟨⟨s0, s1⟩, s2, s3, s4⟩, _⟩ := hSw
              go_simp
              try with_reducible rfl
            try simp only [Act.put, List.setIfInBounds_toArray, List.set_cons_zero, List.set_cons_succ]
            refine wpAnyH_take (i := 16) (v := ?_) (op_at (r := _) rfl) (by kernel_rfl) (by kernel_rfl) (by kernel_rfl) (fun _ _ _ h => h) (Or.inl ⟨by rfl, ?_⟩) (by assumption) ?_
            rotate_left
            · intro W2 hSw
              obtain ⟨⟨⟨s0, s1⟩, s2, s3, s4⟩, _⟩ := hSw
              go_simp
              try with_reducible rfl
            try simp only [Act.put, List.setIfInBounds_toArray, List.set_cons_zero, List.set_cons_succ]
            refine wpAnyH_take (i := 17) (v := ?_) (op_at (r := _) rfl) (by kernel_rfl) (by kernel_rfl) (by kernel_rfl) (fun _ _ _ h => h) (Or.inl ⟨by rfl, ?_⟩) (by assumption) ?_
            rotate_left
            · intro W2 hSw
              obtain ⟨⟨⟨s0, s1⟩, s2, s3, s4⟩, _⟩ := hSw
              go_simp
              try with_reducible rfl
            try simp only [Act.put, List.setIfInBounds_toArray, List.set_cons_zero, List.set_cons_succ]
            refine wpAnyH_take (i := 18) (v := ?_) (op_at (r := _) rfl) (by kernel_rfl) (by kernel_rfl) (by kernel_rfl) (fun _ _ _ h => h) (Or.inl ⟨by rfl, ?_⟩) (by assumption) ?_
            rotate_left
            · intro W2 hSw
              obtain ⟨⟨⟨s0, s1⟩, s2, s3, s4⟩, _⟩ := hSw
              go_simp
              try with_reducible rfl
            try simp only [Act.put, List.setIfInBounds_toArray, List.set_cons_zero, List.set_cons_succ]
            refine wpAnyH_take (i := 19) (v := ?_) (op_at (r := _) rfl) (by kernel_rfl) (by kernel_rfl) (by kernel_rfl) (fun _ _ _ h => h) (Or.inl ⟨by rfl, ?_⟩) (by assumption) ?_
            rotate_left
            · intro W2 hSw
              obtain ⟨⟨⟨s0, s1⟩, s2, s3, s4⟩, _⟩ := hSw
              go_simp
              try with_reducible rfl
            try simp only [Act.put, List.setIfInBounds_toArray, List.set_cons_zero, List.set_cons_succ]
            refine wpAnyH_take (i := 21) (v := ?_) (op_at (r := _) rfl) (by kernel_rfl) (by kernel_rfl) (by kernel_rfl) (fun _ _ _ h => h) (Or.inl ⟨by rfl, ?_⟩) (by assumption) ?_
            rotate_left
            · intro W2 hSw
              obtain ⟨⟨⟨s0, s1⟩, s2, s3, s4⟩, _⟩ := hSw
              go_simp
              try with_reducible rfl
            try simp only [Act.put, List.setIfInBounds_toArray, List.set_cons_zero, List.set_cons_succ]
            refine wpAnyH_take (i := 20) (v := ?_) (op_at (r := _) rfl) (by kernel_rfl) (by kernel_rfl) (by kernel_rfl) (fun _ _ _ h => h) (Or.inl ⟨by rfl, ?_⟩) (by assumption) ?_
            rotate_left
            · intro W2 hSw
              obtain ⟨⟨⟨s0, s1⟩, s2, s3, s4⟩, _⟩ := hSw
              go_simp
              try with_reducible rfl
            try simp only [Act.put, List.setIfInBounds_toArray, List.set_cons_zero, List.set_cons_succ]
            refine wpAnyH_take (i := 22) (v := ?_) (op_at (r := _) rfl) (by kernel_rfl) (by kernel_rfl) (by kernel_rfl) (fun _ _ _ h => h) (Or.inl ⟨by rfl, ?_⟩) (by assumption) ?_
            rotate_left
            · intro W2 hSw
              obtain ⟨⟨⟨s0, s1⟩, s2, s3, s4⟩, _⟩ := hSw
              go_simp
              try with_reducible rfl
            try simp only [Act.put, List.setIfInBounds_toArray, List.set_cons_zero, List.set_cons_succ]
            refine wpAnyH_take (i := 23) (v := ?_) (op_at (r := _) rfl) (by kernel_rfl) (by kernel_rfl) (by kernel_rfl) (fun _ _ _ h => h) (Or.inl ⟨by rfl, ?_⟩) (by assumption) ?_
            rotate_left
            · intro W2 hSw
              obtain ⟨⟨⟨s0, s1⟩, s2, s3, s4⟩, _⟩ := hSw
              go_simp
              try with_reducible rfl
            try simp only [Act.put, List.setIfInBounds_toArray, List.set_cons_zero, List.set_cons_succ]
            refine wpAnyH_take (i := 24) (v := ?_) (op_at (r := _) rfl) (by kernel_rfl) (by kernel_rfl) (by kernel_rfl) (fun _ _ _ h => h) (Or.inl ⟨by rfl, ?_⟩) (by assumption) ?_
            rotate_left
            · intro W2 hSw
              obtain ⟨⟨⟨s0, s1⟩, s2, s3, s4⟩, _⟩ := hSw
              go_simp
              try with_reducible rfl
            try simp only [Act.put, List.setIfInBounds_toArray, List.set_cons_zero, List.set_cons_succ]
            refine wpAnyH_take (i := 25) (v := ?_) (op_at (r := _) rfl) (by kernel_rfl) (by kernel_rfl) (by kernel_rfl) (fun _ _ _ h => h) (Or.inl ⟨by rfl, ?_⟩) (by assumption) ?_
            rotate_left
            · intro W2 hSw
              obtain ⟨⟨⟨s0, s1⟩, s2, s3, s4⟩, _⟩ := hSw
              go_simp
              try with_reducible rfl
            try simp only [Act.put, List.setIfInBounds_toArray, List.set_cons_zero, List.set_cons_succ]
            refine wpAnyH_take (i := 26) (v := ?_) (op_at (r := _) rfl) (by kernel_rfl) (by kernel_rfl) (by kernel_rfl) (fun _ _ _ h => h) (Or.inl ⟨by rfl, ?_⟩) (by assumption) ?_
            rotate_left
            · intro W2 hSw
              obtain ⟨⟨⟨s0, s1⟩, s2, s3, s4⟩, _⟩ := hSw
              go_simp
              try with_reducible rfl
            try simp only [Act.put, List.setIfInBounds_toArray, List.set_cons_zero, List.set_cons_succ]
            refine wpAnyH_take (i := 27) (v := ?_) (op_at (r := _) rfl) (by kernel_rfl) (by kernel_rfl) (by kernel_rfl) (fun _ _ _ h => h) (Or.inl ⟨by rfl, ?_⟩) (by assumption) ?_
            rotate_left
            · intro W2 hSw
              obtain ⟨⟨⟨s0, s1⟩, s2, s3, s4⟩, _⟩ := hSw
              go_simp
              try with_reducible rfl
            try simp only [Act.put, List.setIfInBounds_toArray, List.set_cons_zero, List.set_cons_succ]
            refine wpAnyH_take (i := 28) (v := ?_) (op_at (r := _) rfl) (by kernel_rfl) (by kernel_rfl) (by kernel_rfl) (fun _ _ _ h => h) (Or.inl ⟨by rfl, ?_⟩) (by assumption) ?_
            rotate_left
            · intro W2 hSw
              obtain ⟨⟨⟨s0, s1⟩, s2, s3, s4⟩, _⟩ := hSw
              go_simp
              try with_reducible rfl
            try simp only [Act.put, List.setIfInBounds_toArray, List.set_cons_zero, List.set_cons_succ]
            have hbx := below_ad wr (.cells #[.int .i64 e0, .int .i64 e1, .int .i64 e2] 65 (0, 0))
            have HGX := Lib.hid (HG.out.trans (hbx.mono (show w.heap.size + 2 ≤ wr.heap.size by omega)))
            have HBX := Lib.hid (HBL.out.up hbx)
            have HOX := Lib.hid (OwnE.below HO.out hbx (Nat.le_refl _))
            have HNX := Lib.hid (OwnE.below HON.out hbx (Nat.le_refl _))
            have hnx : (wr.alloc (.cells #[.int .i64 e0, .int .i64 e1, .int .i64 e2] 65 (0, 0))).drew.heap[wr.heap.size]? = some (.cells #[.int .i64 e0, .int .i64 e1, .int .i64 e2] 65 (0, 0)) := heap_alloc_new wr _
            have HXX := Lib.hid hnx
            have hxs : wr.heap.size < (wr.alloc (.cells #[.int .i64 e0, .int .i64 e1, .int .i64 e2] 65 (0, 0))).drew.heap.size := by simp
            have hy3 : w.heap.size + 2 < wr.heap.size := by omega
            obtain ⟨b0, b1⟩ := HBL.out.cells
            clear hbx hnx
            refine wpAnyH_ready (rs := [1, 29]) (by kernel_rfl) (by simp) ?_
            refine AllReadyH.cons (op_at (r := _) rfl) (fun K hK => ?_) (AllReadyH.cons (op_at (r := _) rfl) (fun K hK => ?_) AllReadyH.nil)
            · go_simp
              refine hK.out _ _ (by assumption) (fun hHeld => ?_)
              clear hK K
              try simp only [Act.put, List.setIfInBounds_toArray, List.set_cons_zero, List.set_cons_succ]
              refine wpAnyH_ready (rs := [29]) (by kernel_rfl) (by simp) ?_
              refine AllReadyH.cons (op_at (r := _) rfl) (fun K hK => ?_) AllReadyH.nil
              go_simp
              refine hK.out _ _ (HS.out _ HGX.out) (fun hHeld => ?_)
              clear hK K
              try simp only [Act.put, List.setIfInBounds_toArray, List.set_cons_zero, List.set_cons_succ]
              generalize (wr.alloc (.cells #[.int .i64 e0, .int .i64 e1, .int .i64 e2] 65 (0, 0))).drew = wx at *
              refine wpAnyH_ready (rs := [30]) (by kernel_rfl) (by simp) ?_
              refine AllReadyH.cons (op_at (r := _) rfl) (fun K hK => ?_) AllReadyH.nil
              refine step_append_G (E := EEd) (by rfl) _ _ 23 65 (by rfl) Tryd.underlying23 infoEd rfl (by decide) (by decide) (w.heap.size + 3) (.slice ab (esT d j).length cb) (esT d j) (by rfl) HOX.out ⟨wr.heap.size, 0, none⟩ 1 ⟨e0, e1, e2⟩ (by rfl) (new_ed HXX.out) (by omega) (by omega) ?_
              intro v8 w8 ho8 hg8
              rw [← HE2.out] at ho8
              obtain ⟨a8, c8, rfl⟩ := OwnE.slice ho8
              have HB8 := Lib.hid (HBX.out.grow (by decide) hg8)
              have HO8 := Lib.hid ho8
              have HN8 := Lib.hid (hg8.row (by decide) HNX.out)
              have HG8 := Lib.hid (HGX.out.trans (hg8.1.mono (by omega)))
              have hz8 := HZ.out _ HG8.out
              have y8 : w.heap.size + 2 < w8.heap.size := by omega
              clear ho8 hg8 b0 b1
              obtain ⟨b0, b1⟩ := HB8.out.cells
              have bf := HB8.out.free 1
              refine hK.out _ _ (HS.out _ HG8.out) (fun hHeld => ?_)
              clear hK K
              try simp only [Act.put, List.setIfInBounds_toArray, List.set_cons_zero, List.set_cons_succ]
              refine wpAnyH_take (i := 31) (v := ?_) (op_at (r := _) rfl) (by kernel_rfl) (by kernel_rfl) (by kernel_rfl) (fun _ _ _ h => h) (Or.inl ⟨by rfl, ?_⟩) (by assumption) ?_
              rotate_left
              · intro W2 hSw
                obtain ⟨⟨⟨s0, s1⟩, s2, s3, s4⟩, _⟩ := hSw
                go_simp
                try with_reducible rfl
              try simp only [Act.put, List.setIfInBounds_toArray, List.set_cons_zero, List.set_cons_succ]
              refine wpAnyH_ready (rs := [32]) (by kernel_rfl) (by simp) ?_
              refine AllReadyH.cons (op_at (r := _) rfl) (fun K hK => ?_) AllReadyH.nil
              go_simp
              refine hK.out _ _ (HS.out _ (HG8.out.setCell (p := ⟨w.heap.size + 2, 1, none⟩) (Nat.le_refl _) _)) (fun hHeld => ?_)
              clear hK K
              try simp only [Act.put, List.setIfInBounds_toArray, List.set_cons_zero, List.set_cons_succ]
              refine wpAnyH_done (by kernel_rfl) ?_ _
              refine NoPanic.normal ?_
              go_wp2_with fail
              go_roundw
              case rel => exact ⟨j + 1, _, by omega, by go_num, HB8.out.set1 _, OwnE.setBox HN8.out HB8.out (by decide) 1, OwnE.setBox HO8.out HB8.out (by decide) 1, HG8.out.setCell (p := ⟨w.heap.size + 2, 1, none⟩) (Nat.le_refl _) _⟩
              case measure => simp [intOf]; omega
            · go_simp
              refine hK.out _ _ (HS.out _ HGX.out) (fun hHeld => ?_)
              clear hK K
              try simp only [Act.put, List.setIfInBounds_toArray, List.set_cons_zero, List.set_cons_succ]
              refine wpAnyH_ready (rs := [1]) (by kernel_rfl) (by simp) ?_
              refine AllReadyH.cons (op_at (r := _) rfl) (fun K hK => ?_) AllReadyH.nil
              go_simp
              refine hK.out _ _ (by assumption) (fun hHeld => ?_)
              clear hK K
              try simp only [Act.put, List.setIfInBounds_toArray, List.set_cons_zero, List.set_cons_succ]
              generalize (wr.alloc (.cells #[.int .i64 e0, .int .i64 e1, .int .i64 e2] 65 (0, 0))).drew = wx at *
              refine wpAnyH_ready (rs := [30]) (by kernel_rfl) (by simp) ?_
              refine AllReadyH.cons (op_at (r := _) rfl) (fun K hK => ?_) AllReadyH.nil
              refine step_append_G (E := EEd) (by rfl) _ _ 23 65 (by rfl) Tryd.underlying23 infoEd rfl (by decide) (by decide) (w.heap.size + 3) (.slice ab (esT d j).length cb) (esT d j) (by rfl) HOX.out ⟨wr.heap.size, 0, none⟩ 1 ⟨e0, e1, e2⟩ (by rfl) (new_ed HXX.out) (by omega) (by omega) ?_
              intro v8 w8 ho8 hg8
              rw [← HE2.out] at ho8
              obtain ⟨a8, c8, rfl⟩ := OwnE.slice ho8
              have HB8 := Lib.hid (HBX.out.grow (by decide) hg8)
              have HO8 := Lib.hid ho8
              have HN8 := Lib.hid (hg8.row (by decide) HNX.out)
              have HG8 := Lib.hid (HGX.out.trans (hg8.1.mono (by omega)))
              have hz8 := HZ.out _ HG8.out
              have y8 : w.heap.size + 2 < w8.heap.size := by omega
              clear ho8 hg8 b0 b1
              obtain ⟨b0, b1⟩ := HB8.out.cells
              have bf := HB8.out.free 1
              refine hK.out _ _ (HS.out _ HG8.out) (fun hHeld => ?_)
              clear hK K
              try simp only [Act.put, List.setIfInBounds_toArray, List.set_cons_zero, List.set_cons_succ]
              refine wpAnyH_take (i := 31) (v := ?_) (op_at (r := _) rfl) (by kernel_rfl) (by kernel_rfl) (by kernel_rfl) (fun _ _ _ h => h) (Or.inl ⟨by rfl, ?_⟩) (by assumption) ?_
              rotate_left
              · intro W2 hSw
                obtain ⟨⟨⟨s0, s1⟩, s2, s3, s4⟩, _⟩ := hSw
                go_simp
                try with_reducible rfl
              try simp only [Act.put, List.setIfInBounds_toArray, List.set_cons_zero, List.set_cons_succ]
              refine wpAnyH_ready (rs := [32]) (by kernel_rfl) (by simp) ?_
              refine AllReadyH.cons (op_at (r := _) rfl) (fun K hK => ?_) AllReadyH.nil
              go_simp
              refine hK.out _ _ (HS.out _ (HG8.out.setCell (p := ⟨w.heap.size + 2, 1, none⟩) (Nat.le_refl _) _)) (fun hHeld => ?_)
              clear hK K
              try simp only [Act.put, List.setIfInBounds_toArray, List.set_cons_zero, List.set_cons_succ]
              refine wpAnyH_done (by kernel_rfl) ?_ _
              refine NoPanic.normal ?_
              go_wp2_with fail
              go_roundw
              case rel => exact ⟨j + 1, _, by omega, by go_num, HB8.out.set1 _, OwnE.setBox HN8.out HB8.out (by decide) 1, OwnE.setBox HO8.out HB8.out (by decide) 1, HG8.out.setCell (p := ⟨w.heap.size + 2, 1, none⟩) (Nat.le_refl _) _⟩
              case measure => simp [intOf]; omega
          · have e : j = drM d := by omega
            subst e
            have hn := HM.out
            have hd : decide (drM d < d.es.length) = false ∨ (decide (drM d < d.es.length) = true ∧ decide ((drM d : Int) < 10) = false) ∨ (decide (drM d < d.es.length) = true ∧ decide ((drM d : Int) < 10) = true ∧ nn = []) := by
              by_cases h1 : drM d < d.es.length
              · by_cases h2 : drM d < 10
                · refine .inr (.inr ⟨decide_eq_true h1, decide_eq_true (by omega), List.eq_nil_of_length_eq_zero ?_⟩)
                  rw [HNN.out]
                  rcases Nat.eq_zero_or_pos (drN d) with h | h
                  · exact h
                  · rw [if_neg (by omega)] at hn; omega
                · exact .inr (.inl ⟨decide_eq_true h1, decide_eq_false (by omega)⟩)
              · exact .inl (decide_eq_false h1)
            clear hn
            go_upto_region 8 with (fail)
            go_cut [45] (fun u wx => u = .bool false ∧ wx = wr)
            case first =>
              rcases hd with t1 | ⟨t1, t2⟩ | ⟨t1, t2, t5⟩
              · go_wp2_with fail
                go_meet
                exact ⟨rfl, rfl⟩
              · go_wp2_with fail
                go_meet
                exact ⟨rfl, rfl⟩
              · have t6 : decide (0 < nn.length) = false := by rw [t5]; rfl
                clear t5
                go_wp2_with fail
                go_meet
                exact ⟨rfl, rfl⟩
            case rest =>
              obtain ⟨rfl, rfl⟩ := hcut
              clear hd c0 c1 y0 hlt hj
              obtain ⟨b0, b1⟩ := HBL.out.cells
              have hr := HR.out _ HG.out
              obtain ⟨⟨p0, p1⟩, f0, f1⟩ := hr.sto
              obtain ⟨r0, r1⟩ := cell2 (store2 hr (.slice aa nn.length ca) (.slice ab (esT d (drM d)).length cb))
              have y2 : w.heap.size + 2 < wc.heap.size := by omega
              have y1 : w.heap.size + 1 < wc.heap.size := by omega
              clear hr
              go_wp2_with fail
              refine bodyPost_ret (v := gval aa nn.length ca ab (esT d (drM d)).length cb) (by simp [results, Tryd.results58, go_sem, r0, r1]) rfl ?_
              have hi1 := isI_own ((HON.out.stored' (a := ⟨w.heap.size + 1, 0, none⟩) (show w.heap.size + 1 < w.heap.size + 3 by omega) (.slice aa nn.length ca)).stored' (a := ⟨w.heap.size + 1, 1, none⟩) (show w.heap.size + 1 < w.heap.size + 3 by omega) (.slice ab (esT d (drM d)).length cb))
              have hi2 := isE_own ((HO.out.stored' (a := ⟨w.heap.size + 1, 0, none⟩) (show w.heap.size + 1 < w.heap.size + 3 by omega) (.slice aa nn.length ca)).stored' (a := ⟨w.heap.size + 1, 1, none⟩) (show w.heap.size + 1 < w.heap.size + 3 by omega) (.slice ab (esT d (drM d)).length cb))
              exact ⟨⟨_, rfl, by rw [HMG.out]; exact isG_of (g := ⟨nn, esT d (drM d)⟩) hi1 hi2⟩, ((HW.out _ HG.out).setCell (p := ⟨w.heap.size + 1, 0, none⟩) (Nat.le_succ _) _).setCell (p := ⟨w.heap.size + 1, 1, none⟩) (Nat.le_succ _) _⟩

end Go.Proofs.YtaeelanbkdkppaaDoor

/-
  newFinder: the links of a graph's edges.
-/
namespace Go.Proofs.YtaeelanbkdkppaaDoor
open Go.RowKit

def lkL (L : Lk) (z : Int) : List Value := [.int .i64 (L.fr : Int), .int .i64 (L.tq : Int)] ++ chL L.reach ++ [.int .i64 z]
theorem lkL_len (L : Lk) (z : Int) : (lkL L z).length = 43 := by simp [lkL, chL_length]
theorem chL_one (c : Chs) : ∀ u ∈ chL c, u.oneCell' = true := fun u hu => by
  simp only [chL, List.mem_map] at hu
  obtain ⟨k, _, rfl⟩ := hu
  rfl
/-- how a new link lies -/
def ELk : El Lk := ⟨fun L => lkL L 1, 43, fun L => lkL_len L 1, fun L u hu => by
  simp only [lkL, List.mem_append, List.mem_cons, List.not_mem_nil, or_false] at hu
  rcases hu with ((rfl | rfl) | hu) | rfl
  · rfl
  · rfl
  · exact chL_one _ _ hu
  · rfl⟩

theorem built_link (f t : Nat) (R : Chs) : Tryd.prog.built 131 [(0, .int .i64 (f : Int)), (1, .int .i64 (t : Int)), (2, .agg (chA R)), (3, .int .i64 1)] = some (lkL ⟨f, t, R⟩ 1).toArray := by kernel_rfl
def zLk : Value := .agg (lkL ⟨0, 0, fun _ => 0⟩ 0).toArray
theorem infoLk : (Tryd.prog.info? 131).map (fun i => (i.zero, i.size, i.bytes)) = some (some zLk, 43, 344) := by kernel_rfl
theorem fill_link (f t : Nat) (R : Chs) : Instr.fill (fun i => some (i * 43, 43)) ((Array.range (1 * 43)).map (zLk.cells[· % zLk.cells.size]!)) [(0, .agg (lkL ⟨f, t, R⟩ 1).toArray)] = some (lkL ⟨f, t, R⟩ 1).toArray := by kernel_rfl
theorem op_slice_link {o : Oper} {a : Act} {w : World} {K : Act → World → Prop} {Q : Exit → Act → World → Prop} (x : Operand) (ho : o.op = .buildSlice 126 1 #[(0, x)]) (f t : Nat) (R : Chs) (hx : a.eval x = .agg (lkL ⟨f, t, R⟩ 1).toArray)
    (h : K (a.put o.dst (.slice (some ⟨w.heap.size, 0, none⟩) 1 1)) (w.alloc (.cells (lkL ⟨f, t, R⟩ 1).toArray 131))) : o.wp Tryd.prog a w K Q := by
  obtain ⟨ie, hie, hz, hs, _⟩ : ∃ i, Tryd.prog.info? 131 = some i ∧ i.zero = some zLk ∧ i.size = 43 ∧ i.bytes = 344 := by
    cases hq : Tryd.prog.info? 131 with
    | none => have := infoLk; rw [hq] at this; cases this
    | some i => have := infoLk; rw [hq] at this; injection this with this; injection this with h1 this; injection this with h2 h3; exact ⟨i, rfl, h1, h2, h3⟩
  refine wp_buildSlice 126 131 1 _ ho _ ie zLk Tryd.underlying126 hie hz (by rw [hs]; decide) (by rw [hs]; decide) ?_ h
  rw [hs]
  have hp : ((#[(0, x)] : Array (Nat × Operand)).map fun (i, x) => (i, a.eval x)).toList = [(0, a.eval x)] := by simp
  rw [hp, hx]
  exact fill_link f t R
theorem exec_build_link {ev : Operand → Value} {o : Oper} {u : World} (x y z : Operand) (ho : o.op = .build 131 #[(0, x), (1, y), (2, z), (3, .const (.int .i64 1))]) (f t : Nat) (R : Chs) (hx : ev x = .int .i64 (f : Int)) (hy : ev y = .int .i64 (t : Int)) (hz : ev z = .agg (chA R)) (h1 : ev (.const (.int .i64 1)) = .int .i64 1) :
    (execOp ev o).run Tryd.prog u = .ok (.value (.agg (lkL ⟨f, t, R⟩ 1).toArray)) u := by
  have hp : ((#[(0, x), (1, y), (2, z), (3, .const (.int .i64 1))] : Array (Nat × Operand)).map fun (i, x) => (i, ev x)).toList = [(0, .int .i64 (f : Int)), (1, .int .i64 (t : Int)), (2, .agg (chA R)), (3, .int .i64 1)] := by simp [hx, hy, hz, h1]
  have hb := run_build u 131 _ _ (by rw [hp]; exact built_link f t R)
  unfold execOp
  simp only [ho, Sem.run_bind, hb, Result.andThen_ok]
  rfl
/-- links that are owned make a finder -/
theorem new_at {w : World} {B fb : Nat} {sv : Value} {LS : List Lk} (hf : w.heap[fb]? = some (.cells #[sv] 128 (0, 0))) (ho : OwnE ELk 131 w B sv LS) (hB : fb < B) : ∃ g A cap, FinAt w fb g A cap LS ∧ (0 < LS.length → B ≤ g) := by
  have hc : w.cell? ⟨fb, 0, none⟩ = some sv := cell_of_row _ _ _ _ _ _ hf
  rcases Nat.eq_zero_or_pos LS.length with h0 | h0
  · obtain ⟨A, c, rfl⟩ := OwnE.slice ho
    exact ⟨0, A, c, ⟨hc, heap_lt hf, fun i h => by omega⟩, fun h => by omega⟩
  · obtain ⟨g, c, rfl, hg1, hg2⟩ := OwnE.pos ho h0
    refine ⟨g, some ⟨g, 0, none⟩, c, ⟨hc, heap_lt hf, fun i hi => ?_⟩, fun _ => hg1⟩
    obtain ⟨A', c', e, hR⟩ := OwnE.reads ho
    injection e with e _ _
    obtain ⟨b, off, h1, _, h3⟩ := Reads.at hR hi
    rw [← e] at h1
    injection h1 with h1
    injection h1 with h1 h2 _
    subst h1 h2
    have cl : ∀ j u, (lkL LS[i] 1)[j]? = some u → w.cell? ⟨g, i * 43 + j, none⟩ = some u := fun j u hu => by
      have := h3 i hi j u hu
      rw [Nat.zero_add] at this
      exact this
    refine ⟨rfl, hg2, by omega, ⟨cl 0 _ rfl, cl 1 _ rfl, fun v hv => ?_⟩, ⟨1, cl 42 _ ?_⟩, World.ownsRow.frozenAt ho _⟩
    · have := cl (2 + v) (.int .u64 (LS[i].reach v : Int)) (by
        unfold lkL
        rw [List.append_assoc, List.getElem?_append_right (by simp), List.getElem?_append_left (by rw [chL_length]; simp; omega)]
        have := chL_get LS[i].reach hv
        simpa using this)
      rwa [← Nat.add_assoc] at this
    · unfold lkL
      rw [List.getElem?_append_right (by rw [List.length_append, chL_length]; simp), List.length_append, chL_length]
      rfl
/-- what the operations of a round rely on -/
def NewS (B eb : Nat) (ty : Int) (f t : Nat) (x y : Value) (u : World) : Prop := u.cell? ⟨eb, 0, none⟩ = some (.int .i64 ty) ∧ u.cell? ⟨eb, 1, none⟩ = some (.int .i64 (f : Int)) ∧ u.cell? ⟨eb, 2, none⟩ = some (.int .i64 (t : Int)) ∧ u.cell? ⟨B + 1, 0, none⟩ = some x ∧ u.cell? ⟨B + 1, 1, none⟩ = some y
theorem newS_of {B eb : Nat} {ty : Int} {f t : Nat} {x y : Value} {u : World} (h1 : u.heap[eb]? = some (.cells #[.int .i64 ty, .int .i64 (f : Int), .int .i64 (t : Int)] 65 (0, 0))) (h2 : u.heap[B + 1]? = some (.cells #[x, y] 25 (0, 0))) : NewS B eb ty f t x y u := by
  have g1 := cell3 h1
  have g2 := cell2 h2
  exact ⟨g1.1, g1.2.1, g1.2.2, g2.1, g2.2⟩
/-- a round's end: from the world w5 before the append -/
theorem new_fin {w w5 w6 : World} {B eb : Nat} {ty : Int} {f t : Nat} {x y sv v' : Value} {LS : List Lk} {L : Lk} (hB : B = w.heap.size) (hown : OwnE ELk 131 w5 (B + 3) sv LS) (hg : w5.grownBy w6 sv.ownBlock) (hb6 : Below (B + 3) w5 w6)
    (h5e : w5.heap[eb]? = some (.cells #[.int .i64 ty, .int .i64 (f : Int), .int .i64 (t : Int)] 65 (0, 0))) (h5g : w5.heap[B + 1]? = some (.cells #[x, y] 25 (0, 0))) (h5f : w5.heap[B + 1 + 1]? = some (.cells #[sv] 128 (0, 0)))
    (hw5 : Below w.heap.size w w5) (hsz : B + 3 ≤ eb) (ho6 : OwnE ELk 131 w6 (B + 3) v' (LS ++ [L])) :
    Boxed w6 (B + 1 + 1) 128 sv ∧ NewS B eb ty f t x y w6 ∧ NewS B eb ty f t x y (w6.setCell ⟨B + 1 + 1, 0, none⟩ v') ∧
    (w6.setCell ⟨B + 1 + 1, 0, none⟩ v').heap[B + 1 + 1]? = some (.cells #[v'] 128 (0, 0)) ∧ OwnE ELk 131 (w6.setCell ⟨B + 1 + 1, 0, none⟩ v') (B + 3) v' (LS ++ [L]) ∧
    (w6.setCell ⟨B + 1 + 1, 0, none⟩ v').heap[B + 1]? = some (.cells #[x, y] 25 (0, 0)) ∧ Below w.heap.size w (w6.setCell ⟨B + 1 + 1, 0, none⟩ v') ∧ B + 3 ≤ (w6.setCell ⟨B + 1 + 1, 0, none⟩ v').heap.size := by
  have gr := Grow.own hown hg hb6
  have e6 := gr.2 _ _ _ (by decide) h5e
  have g6 := gr.2 _ _ _ (by decide) h5g
  have f6 : Boxed w6 (B + 1 + 1) 128 sv := gr.2 _ _ _ (by decide) h5f
  have g7 : (w6.setCell ⟨B + 1 + 1, 0, none⟩ v').heap[B + 1]? = some (.cells #[x, y] 25 (0, 0)) := (heap_setCell_other _ _ _ _ (show B + 1 ≠ B + 1 + 1 by omega)).trans g6
  have e7 : (w6.setCell ⟨B + 1 + 1, 0, none⟩ v').heap[eb]? = some (.cells #[.int .i64 ty, .int .i64 (f : Int), .int .i64 (t : Int)] 65 (0, 0)) := (heap_setCell_other _ _ _ _ (show eb ≠ B + 1 + 1 by omega)).trans e6
  have l6 := heap_lt e6
  refine ⟨f6, newS_of e6 g6, newS_of e7 g7, f6.set v', OwnE.stored' ho6 (show B + 1 + 1 < B + 3 by omega) v', g7, ?_, by simp [World.setCell]; omega⟩
  exact (hw5.trans (hb6.mono (by omega))).setCell (p := ⟨B + 1 + 1, 0, none⟩) (show w.heap.size ≤ B + 1 + 1 by omega) v'

set_option maxRecDepth 100000 in
set_option maxHeartbeats 4000000 in
theorem newFinder_any (a b : Gr) (ha : validE a = 0) (hb : validE b = 0) (An : Option Addr) (cn : Nat) (Ae : Option Addr) (ce : Nat) (Bn : Option Addr) (dn : Nat) (Be : Option Addr) (de : Nat) (w : World) (hTa : GrAt w An cn Ae ce a) (hTb : GrAt w Bn dn Be de b) :
    Calls Tryd.prog 80 #[gval An a.ns.length cn Ae a.es.length ce, gval Bn b.ns.length dn Be b.es.length de] w fun e w' => ∃ fb g A cap, e = .returned (.pointer (some ⟨fb, 0, none⟩)) ∧ FinAt w' fb g A cap (linksF b a.es) ∧ w.heap.size ≤ fb ∧ (0 < (linksF b a.es).length → w.heap.size ≤ g) ∧ Below w.heap.size w w' := by
  have HTA := Lib.hid hTa
  have HTB := Lib.hid hTb
  have HVA := Lib.hid ha
  have HVB := Lib.hid hb
  have le := (valid_zero ha).2.1
  clear hTa hTb ha hb
  go_enter Tryd.func80, Tryd.ntmps80
  go_upto_region 2 with (simp only [ch_zero])
  generalize hW0 : ((w.alloc _).alloc _).alloc _ = W0
  have hB0 : Below w.heap.size w W0 := by
    rw [← hW0]
    exact (((Below.refl _ _).alloc (Nat.le_refl _) _).alloc (by simp) _).alloc (by simp; omega) _
  have hg0 : W0.heap[w.heap.size]? = some (.cells #[.slice An a.ns.length cn, .slice Ae a.es.length ce] 25 (0, 0)) := by rw [← hW0]; simp only [at_alloc, size_alloc]; repeat (first | rfl | (split; · (first | rfl | omega)))
  have hg1 : W0.heap[w.heap.size + 1]? = some (.cells #[.slice Bn b.ns.length dn, .slice Be b.es.length de] 25 (0, 0)) := by rw [← hW0]; simp only [at_alloc, size_alloc]; repeat (first | rfl | (split; · (first | rfl | omega)))
  have hf0 : W0.heap[w.heap.size + 1 + 1]? = some (.cells #[.slice none 0 0] 128 (0, 0)) := by rw [← hW0]; simp only [at_alloc, size_alloc]; repeat (first | rfl | (split; · (first | rfl | omega)))
  have hs0 : W0.heap.size = w.heap.size + 3 := by rw [← hW0]; simp
  obtain ⟨B, hB⟩ : ∃ B, B = w.heap.size := ⟨_, rfl⟩
  rw [← hB] at hg0 hg1 hf0 hs0 ⊢
  obtain ⟨g1, g2⟩ := cell2 hg0
  have HG1 := Lib.hid hg1
  have HB0 := Lib.hid hB0
  have HS0 := Lib.hid hs0
  have HBE := Lib.hid hB
  have HF0 := Lib.hid hf0
  clear hW0 hg0 hg1 hB0 hf0 hs0 hB
  go_upto_region 3 with fail
  clear g1 g2
  go_loopw [13] (fun v wr => ∃ (k : Nat) (sv : Value), k ≤ a.es.length ∧ v = .int .i64 (k : Int) ∧ wr.heap[B + 1 + 1]? = some (.cells #[sv] 128 (0, 0)) ∧ OwnE ELk 131 wr (B + 3) sv (linksF b (a.es.take k)) ∧ wr.heap[B + 1]? = some (.cells #[.slice Bn b.ns.length dn, .slice Be b.es.length de] 25 (0, 0)) ∧ Below w.heap.size w wr ∧ B + 3 ≤ wr.heap.size) (fun v _ => a.es.length - (intOf v).toNat)
  case atStart => exact ⟨0, _, Nat.zero_le _, rfl, HF0.out, OwnE.nil _ _ _, HG1.out, HB0.out, by have := HS0.out; omega⟩
  case round =>
    obtain ⟨k, sv, hk, rfl, q1, q2, q3, q4, q5⟩ := hrel
    clear HF0 HG1 HB0 HS0
    by_cases hlt : k < a.es.length
    · obtain ⟨bb, off, rfl, hbb, hc⟩ := Eds.cells (HTA.out.es.below q4) hlt
      obtain ⟨c0, c1, c2⟩ := hc k hlt
      have hx := nodes_lt HVA.out (getD_mem (d := default) hlt)
      have hsn := linksF_snoc b (a.es.take k) (a.es.getD k default)
      have hle := linksF_len b (a.es.take k)
      rw [← take_snoc hlt] at hsn
      have hle2 : (linksF b (a.es.take k)).length ≤ 1000 := by rw [List.length_take] at hle; omega
      have HSN := Lib.hid hsn
      clear hc hsn hle
      generalize a.es.getD k default = x at *
      obtain ⟨ty, fr, tt⟩ := x
      dsimp only at c0 c1 c2 hx HSN
      obtain ⟨x1, x2, x3, x4⟩ := hx
      obtain ⟨f, rfl⟩ : ∃ f : Nat, fr = (f : Int) := ⟨fr.toNat, by omega⟩
      obtain ⟨t, rfl⟩ : ∃ t : Nat, tt = (t : Int) := ⟨tt.toNat, by omega⟩
      have hlk : linkOf b ⟨ty, (f : Int), (t : Int)⟩ = ⟨f, t, reachF ty b.es⟩ := by unfold linkOf; simp
      rw [hlk] at HSN
      clear hlk
      generalize linksF b (a.es.take k) = LS at *
      have hk0 : (0 : Int) ≤ (k : Int) := by omega
      have hk1 : (k : Int) < (a.es.length : Int) := by omega
      have hk2 : ((k : Int)).toNat = k := by omega
      have HQ1 := Lib.hid q1
      have HQ2 := Lib.hid q2
      have HQ3 := Lib.hid q3
      have HQ4 := Lib.hid q4
      have HQ5 := Lib.hid q5
      have HL := Lib.hid hlt
      have HM : Hid (a.es.length - ((k : Int) + 1).toNat < a.es.length - ((k : Int)).toNat) := Lib.hid (by omega)
      clear q1 q2 q3 q4 q5 hlt
      go_upto_region 5 with fail
      generalize hwx : wr.alloc _ = wx
      have hbx : Below wr.heap.size wr wx := by rw [← hwx]; exact (Below.refl _ _).alloc (Nat.le_refl _) _
      have hsx : wx.heap.size = wr.heap.size + 1 := by rw [← hwx]; simp
      have he : wx.heap[wr.heap.size]? = some (.cells #[.int .i64 ty, .int .i64 (f : Int), .int .i64 (t : Int)] 65 (0, 0)) := by rw [← hwx]; exact heap_alloc_new _ _
      clear hwx
      have q1 := heap_up hbx HQ1.out
      have q2 := OwnE.below HQ2.out hbx (Nat.le_refl _)
      have q3 := heap_up hbx HQ3.out
      have q4 : Below w.heap.size w wx := HQ4.out.trans (hbx.mono (by have := HBE.out; have := HQ5.out; omega))
      obtain ⟨e0, e1, e2⟩ := cell3 he
      obtain ⟨eb, heb⟩ : ∃ eb, wr.heap.size = eb := ⟨_, rfl⟩
      have hsz := HQ5.out
      rw [heb] at hsx hsz he e0 e1 e2 ⊢
      clear heb c0 c1 c2 hbx HQ1 HQ2 HQ3 HQ4 HQ5
      have HQ1 := Lib.hid q1
      have HQ2 := Lib.hid q2
      have HQ3 := Lib.hid q3
      have HQ4 := Lib.hid q4
      by_cases hft : (f : Int) = (t : Int)
      · rw [if_pos hft] at HSN
        have hke : (((f : Int)) != (t : Int)) = false := by simp [hft]
        clear q1 q2 q3 q4 he
        go_wp2
        go_roundw
        case rel => exact ⟨k + 1, sv, HL.out, by go_num, HQ1.out, by rw [HSN.out]; exact HQ2.out, HQ3.out, HQ4.out, by omega⟩
        case measure => exact HM.out
      · rw [if_neg hft] at HSN
        have hke : (((f : Int)) != (t : Int)) = true := by simpa using hft
        have HRB := Lib.hid (reachBy_any ty b HVB.out Bn dn Be de wx.drew (HTB.out.up q4.drew))
        generalize reachF ty b.es = R at *
        obtain ⟨g1, g2⟩ := cell2 q3
        have hq1 : wx.cell? ⟨B + 1 + 1, 0, none⟩ = some sv := cell_of_row _ _ _ _ _ _ q1
        have HE := Lib.hid he
        have HSX := Lib.hid hsx
        have HSZ := Lib.hid hsz
        clear q1 q2 q3 q4 he
        go_upto_region 6 with fail
        have HS : Hid ((NewS B eb ty f t (.slice Bn b.ns.length dn) (.slice Be b.es.length de)) wx.drew) := Lib.hid ⟨e0, e1, e2, g1, g2⟩
        clear e0 e1 e2 g1 g2 hsx hsz
        refine wp_region_noPanic ?_
        refine wp_region_held_drew (S := (NewS B eb ty f t (.slice Bn b.ns.length dn) (.slice Be b.es.length de))) (by kernel_rfl) (HS.out) (fun hHeld => ?_)
        refine wpAnyH_take (i := 0) (v := ?_) (oper_at (r := _) rfl) (by kernel_rfl) (by kernel_rfl) (by kernel_rfl) (fun _ _ _ h => h) (Or.inl ⟨by rfl, ?_⟩) (by assumption) ?_
        rotate_left
        · intro w hSw; try dsimp only [NewS] at hSw
          go_simp
          try with_reducible rfl
        try simp only [Act.put, List.setIfInBounds_toArray, List.set_cons_zero, List.set_cons_succ]
        refine wpAnyH_take (i := 1) (v := ?_) (oper_at (r := _) rfl) (by kernel_rfl) (by kernel_rfl) (by kernel_rfl) (fun _ _ _ h => h) (Or.inl ⟨by rfl, ?_⟩) (by assumption) ?_
        rotate_left
        · intro w hSw; try dsimp only [NewS] at hSw
          go_simp
          try with_reducible rfl
        try simp only [Act.put, List.setIfInBounds_toArray, List.set_cons_zero, List.set_cons_succ]
        refine wpAnyH_take (i := 2) (v := ?_) (oper_at (r := _) rfl) (by kernel_rfl) (by kernel_rfl) (by kernel_rfl) (fun _ _ _ h => h) (Or.inl ⟨by rfl, ?_⟩) (by assumption) ?_
        rotate_left
        · intro w hSw; try dsimp only [NewS] at hSw
          go_simp
          try with_reducible rfl
        try simp only [Act.put, List.setIfInBounds_toArray, List.set_cons_zero, List.set_cons_succ]
        refine wpAnyH_take (i := 3) (v := ?_) (oper_at (r := _) rfl) (by kernel_rfl) (by kernel_rfl) (by kernel_rfl) (fun _ _ _ h => h) (Or.inl ⟨by rfl, ?_⟩) (by assumption) ?_
        rotate_left
        · intro w hSw; try dsimp only [NewS] at hSw
          go_simp
          try with_reducible rfl
        try simp only [Act.put, List.setIfInBounds_toArray, List.set_cons_zero, List.set_cons_succ]
        refine wpAnyH_take (i := 5) (v := ?_) (oper_at (r := _) rfl) (by kernel_rfl) (by kernel_rfl) (by kernel_rfl) (fun _ _ _ h => h) (Or.inl ⟨by rfl, ?_⟩) (by assumption) ?_
        rotate_left
        · intro w hSw; try dsimp only [NewS] at hSw
          go_simp
          try with_reducible rfl
        try simp only [Act.put, List.setIfInBounds_toArray, List.set_cons_zero, List.set_cons_succ]
        refine wpAnyH_take (i := 6) (v := ?_) (oper_at (r := _) rfl) (by kernel_rfl) (by kernel_rfl) (by kernel_rfl) (fun _ _ _ h => h) (Or.inl ⟨by rfl, ?_⟩) (by assumption) ?_
        rotate_left
        · intro w hSw; try dsimp only [NewS] at hSw
          go_simp
          try with_reducible rfl
        try simp only [Act.put, List.setIfInBounds_toArray, List.set_cons_zero, List.set_cons_succ]
        refine wpAnyH_take (i := 7) (v := ?_) (oper_at (r := _) rfl) (by kernel_rfl) (by kernel_rfl) (by kernel_rfl) (fun _ _ _ h => h) (Or.inl ⟨by rfl, ?_⟩) (by assumption) ?_
        rotate_left
        · intro w hSw; try dsimp only [NewS] at hSw
          go_simp
          try with_reducible rfl
        try simp only [Act.put, List.setIfInBounds_toArray, List.set_cons_zero, List.set_cons_succ]
        refine wpAnyH_take (i := 8) (v := ?_) (oper_at (r := _) rfl) (by kernel_rfl) (by kernel_rfl) (by kernel_rfl) (fun _ _ _ h => h) (Or.inl ⟨by rfl, ?_⟩) (by assumption) ?_
        rotate_left
        · intro w hSw; try dsimp only [NewS] at hSw
          go_simp
          try with_reducible rfl
        try simp only [Act.put, List.setIfInBounds_toArray, List.set_cons_zero, List.set_cons_succ]
        refine wpAnyH_take (i := 9) (v := ?_) (oper_at (r := _) rfl) (by kernel_rfl) (by kernel_rfl) (by kernel_rfl) (fun _ _ _ h => h) (Or.inl ⟨by rfl, ?_⟩) (by assumption) ?_
        rotate_left
        · intro w hSw; try dsimp only [NewS] at hSw
          go_simp
          try with_reducible rfl
        try simp only [Act.put, List.setIfInBounds_toArray, List.set_cons_zero, List.set_cons_succ]
        refine wpAnyH_take (i := 10) (v := ?_) (oper_at (r := _) rfl) (by kernel_rfl) (by kernel_rfl) (by kernel_rfl) (fun _ _ _ h => h) (Or.inl ⟨by rfl, ?_⟩) (by assumption) ?_
        rotate_left
        · intro w hSw; try dsimp only [NewS] at hSw
          go_simp
          try with_reducible rfl
        try simp only [Act.put, List.setIfInBounds_toArray, List.set_cons_zero, List.set_cons_succ]
        refine wpAnyH_take (i := 11) (v := ?_) (oper_at (r := _) rfl) (by kernel_rfl) (by kernel_rfl) (by kernel_rfl) (fun _ _ _ h => h) (Or.inl ⟨by rfl, ?_⟩) (by assumption) ?_
        rotate_left
        · intro w hSw; try dsimp only [NewS] at hSw
          go_simp
          try with_reducible rfl
        try simp only [Act.put, List.setIfInBounds_toArray, List.set_cons_zero, List.set_cons_succ]
        refine wpAnyH_ready (rs := [4, 12]) (by kernel_rfl) (by simp) ?_
        refine AllReadyH.cons (oper_at (r := _) rfl) (fun K hK => ?_) (AllReadyH.cons (oper_at (r := _) rfl) (fun K hK => ?_) AllReadyH.nil)
        · go_simp
          refine hK.out _ _ (HS.out) (fun _ => ?_)
          clear hK K
          try simp only [Act.put, List.setIfInBounds_toArray, List.set_cons_zero, List.set_cons_succ]
          refine wpAnyH_ready (rs := [12]) (by kernel_rfl) (by simp) ?_
          refine AllReadyH.cons (oper_at (r := _) rfl) (fun K hK => ?_) AllReadyH.nil
          go_simp
          refine HRB.out.mono ?_
          rintro e w4 ⟨rfl, hb4⟩
          have e4 := heap_up (w := wx.drew) hb4 HE.out
          have p4 := heap_up (w := wx.drew) hb4 HQ3.out
          have f4 : Boxed w4 (B + 1 + 1) 128 sv := heap_up (w := wx.drew) hb4 HQ1.out
          have o4 : OwnE ELk 131 w4 (B + 3) sv LS := OwnE.below (w := wx.drew) HQ2.out hb4 (Nat.le_refl _)
          have b4 : Below w.heap.size w w4 := HQ4.out.drew.trans (hb4.mono (by have := HSX.out; have := HSZ.out; have := HBE.out; simp; omega))
          have HS2 : Hid ((NewS B eb ty f t (.slice Bn b.ns.length dn) (.slice Be b.es.length de)) w4) := Lib.hid (newS_of e4 p4)
          have f4c := f4.cell
          have HE4 := Lib.hid e4
          have HP4 := Lib.hid p4
          have HF4 := Lib.hid f4
          have HO4 := Lib.hid o4
          have HB4 := Lib.hid b4
          have H4 : Hid (B + 3 ≤ w4.heap.size) := Lib.hid (by have := heap_lt e4; have := HSZ.out; omega)
          clear hb4 e4 p4 f4 o4 b4
          go_wp2_with fail
          refine hK.out _ _ (HS2.out) (fun _ => ?_)
          clear hK K
          try simp only [Act.put, List.setIfInBounds_toArray, List.set_cons_zero, List.set_cons_succ]
          refine wpAnyH_take (i := 13) (v := (.agg (lkL ⟨f, t, R⟩ 1).toArray)) (oper_at (r := _) rfl) (by kernel_rfl) (by kernel_rfl) (by kernel_rfl) (fun _ _ _ h => h) (Or.inl ⟨by rfl, (fun u hu => exec_build_link _ _ _ rfl f t R rfl rfl rfl rfl)⟩) (by assumption) ?_
          try simp only [Act.put, List.setIfInBounds_toArray, List.set_cons_zero, List.set_cons_succ]
          refine wpAnyH_ready (rs := [14]) (by kernel_rfl) (by simp) ?_
          refine AllReadyH.cons (oper_at (r := _) rfl) (fun K hK => ?_) AllReadyH.nil
          rw [if_pos (by rfl)]
          refine op_slice_link _ rfl f t R rfl ?_
          have f5 := HF4.out.alloc (.cells (lkL ⟨f, t, R⟩ 1).toArray 131)
          have HE5 := Lib.hid (heap_up (Below.alloc (Below.refl _ _) (Nat.le_refl _) (.cells (lkL ⟨f, t, R⟩ 1).toArray 131)) HE4.out)
          have HP5 := Lib.hid (heap_up (Below.alloc (Below.refl _ _) (Nat.le_refl _) (.cells (lkL ⟨f, t, R⟩ 1).toArray 131)) HP4.out)
          have HO5 := Lib.hid (OwnE.alloc HO4.out (.cells (lkL ⟨f, t, R⟩ 1).toArray 131))
          have HB5 := Lib.hid (HB4.out.trans ((Below.alloc (Below.refl _ w4) (Nat.le_refl _) (.cells (lkL ⟨f, t, R⟩ 1).toArray 131)).mono HB4.out.size))
          have HN5 : Hid ((w4.alloc (.cells (lkL ⟨f, t, R⟩ 1).toArray 131)).heap[w4.heap.size]? = some (.cells (lkL ⟨f, t, R⟩ 1).toArray 131 (0, 0))) := Lib.hid (heap_alloc_new _ _)
          have hs5 : w4.heap.size < (w4.alloc (.cells (lkL ⟨f, t, R⟩ 1).toArray 131)).heap.size := by simp
          generalize w4.alloc (.cells (lkL ⟨f, t, R⟩ 1).toArray 131) = w5 at *
          have f5c := f5.cell
          have HF5 := Lib.hid f5
          have HS5 : Hid ((NewS B eb ty f t (.slice Bn b.ns.length dn) (.slice Be b.es.length de)) w5) := Lib.hid (newS_of HE5.out HP5.out)
          clear f5
          refine hK.out _ _ (HS5.out) (fun _ => ?_)
          clear hK K
          try simp only [Act.put, List.setIfInBounds_toArray, List.set_cons_zero, List.set_cons_succ]
          refine wpAnyH_ready (rs := [15]) (by kernel_rfl) (by simp) ?_
          refine AllReadyH.cons (oper_at (r := _) rfl) (fun K hK => ?_) AllReadyH.nil
          refine step_append_E (E := ELk) rfl _ _ 126 131 rfl Tryd.underlying126 infoLk rfl (by decide) (by decide) (B + 3) sv LS rfl HO5.out ⟨w4.heap.size, 0, none⟩ 1 ⟨f, t, R⟩ rfl (news_of HN5.out rfl) (by omega) (by have := H4.out; omega) ?_
          intro v' w6 ho6 hg6 hb6
          obtain ⟨a6, c6, hv6⟩ := OwnE.slice ho6
          generalize (LS ++ [(⟨f, t, R⟩ : Lk)]).length = n6 at hv6
          subst hv6
          obtain ⟨r1, r2, r3, r4, r5, r6, r7, r8⟩ := new_fin HBE.out HO5.out hg6 hb6 HE5.out HP5.out HF5.out HB5.out HSZ.out ho6
          have HS6 := Lib.hid r2
          have HS7 := Lib.hid r3
          have HR4 := Lib.hid r4
          have HR5 := Lib.hid r5
          have HR6 := Lib.hid r6
          have HR7 := Lib.hid r7
          have HR8 := Lib.hid r8
          have r1c := r1.cell
          have r1f := r1.frozen
          clear r1 r2 r3 r4 r5 r6 r7 r8 ho6 hg6 hb6
          refine hK.out _ _ (HS6.out) (fun _ => ?_)
          clear hK K
          try simp only [Act.put, List.setIfInBounds_toArray, List.set_cons_zero, List.set_cons_succ]
          refine wpAnyH_take (i := 16) (v := ?_) (oper_at (r := _) rfl) (by kernel_rfl) (by kernel_rfl) (by kernel_rfl) (fun _ _ _ h => h) (Or.inl ⟨by rfl, ?_⟩) (by assumption) ?_
          rotate_left
          · intro w hSw; try dsimp only [NewS] at hSw
            go_simp
            try with_reducible rfl
          try simp only [Act.put, List.setIfInBounds_toArray, List.set_cons_zero, List.set_cons_succ]
          refine wpAnyH_take (i := 17) (v := ?_) (oper_at (r := _) rfl) (by kernel_rfl) (by kernel_rfl) (by kernel_rfl) (fun _ _ _ h => h) (Or.inl ⟨by rfl, ?_⟩) (by assumption) ?_
          rotate_left
          · intro w hSw; try dsimp only [NewS] at hSw
            go_simp
            try with_reducible rfl
          try simp only [Act.put, List.setIfInBounds_toArray, List.set_cons_zero, List.set_cons_succ]
          refine wpAnyH_ready (rs := [18]) (by kernel_rfl) (by simp) ?_
          refine AllReadyH.cons (oper_at (r := _) rfl) (fun K hK => ?_) AllReadyH.nil
          go_simp
          refine hK.out _ _ (HS7.out) (fun _ => ?_)
          clear hK K
          try simp only [Act.put, List.setIfInBounds_toArray, List.set_cons_zero, List.set_cons_succ]
          refine wpAnyH_done (by kernel_rfl) ?_ _
          refine NoPanic.normal ?_
          go_wp2
          go_roundw
          case rel => exact ⟨k + 1, _, HL.out, by go_num, HR4.out, by rw [HSN.out]; exact HR5.out, HR6.out, HR7.out, HR8.out⟩
          case measure => exact HM.out
        · go_simp
          refine HRB.out.mono ?_
          rintro e w4 ⟨rfl, hb4⟩
          have e4 := heap_up (w := wx.drew) hb4 HE.out
          have p4 := heap_up (w := wx.drew) hb4 HQ3.out
          have f4 : Boxed w4 (B + 1 + 1) 128 sv := heap_up (w := wx.drew) hb4 HQ1.out
          have o4 : OwnE ELk 131 w4 (B + 3) sv LS := OwnE.below (w := wx.drew) HQ2.out hb4 (Nat.le_refl _)
          have b4 : Below w.heap.size w w4 := HQ4.out.drew.trans (hb4.mono (by have := HSX.out; have := HSZ.out; have := HBE.out; simp; omega))
          have HS2 : Hid ((NewS B eb ty f t (.slice Bn b.ns.length dn) (.slice Be b.es.length de)) w4) := Lib.hid (newS_of e4 p4)
          have f4c := f4.cell
          have HE4 := Lib.hid e4
          have HP4 := Lib.hid p4
          have HF4 := Lib.hid f4
          have HO4 := Lib.hid o4
          have HB4 := Lib.hid b4
          have H4 : Hid (B + 3 ≤ w4.heap.size) := Lib.hid (by have := heap_lt e4; have := HSZ.out; omega)
          clear hb4 e4 p4 f4 o4 b4
          go_wp2_with fail
          refine hK.out _ _ (HS2.out) (fun _ => ?_)
          clear hK K
          try simp only [Act.put, List.setIfInBounds_toArray, List.set_cons_zero, List.set_cons_succ]
          refine wpAnyH_take (i := 13) (v := (.agg (lkL ⟨f, t, R⟩ 1).toArray)) (oper_at (r := _) rfl) (by kernel_rfl) (by kernel_rfl) (by kernel_rfl) (fun _ _ _ h => h) (Or.inl ⟨by rfl, (fun u hu => exec_build_link _ _ _ rfl f t R rfl rfl rfl rfl)⟩) (by assumption) ?_
          try simp only [Act.put, List.setIfInBounds_toArray, List.set_cons_zero, List.set_cons_succ]
          refine wpAnyH_ready (rs := [4, 14]) (by kernel_rfl) (by simp) ?_
          refine AllReadyH.cons (oper_at (r := _) rfl) (fun K hK => ?_) (AllReadyH.cons (oper_at (r := _) rfl) (fun K hK => ?_) AllReadyH.nil)
          · go_simp
            refine hK.out _ _ (HS2.out) (fun _ => ?_)
            clear hK K
            try simp only [Act.put, List.setIfInBounds_toArray, List.set_cons_zero, List.set_cons_succ]
            refine wpAnyH_ready (rs := [14]) (by kernel_rfl) (by simp) ?_
            refine AllReadyH.cons (oper_at (r := _) rfl) (fun K hK => ?_) AllReadyH.nil
            rw [if_pos (by rfl)]
            refine op_slice_link _ rfl f t R rfl ?_
            have f5 := HF4.out.alloc (.cells (lkL ⟨f, t, R⟩ 1).toArray 131)
            have HE5 := Lib.hid (heap_up (Below.alloc (Below.refl _ _) (Nat.le_refl _) (.cells (lkL ⟨f, t, R⟩ 1).toArray 131)) HE4.out)
            have HP5 := Lib.hid (heap_up (Below.alloc (Below.refl _ _) (Nat.le_refl _) (.cells (lkL ⟨f, t, R⟩ 1).toArray 131)) HP4.out)
            have HO5 := Lib.hid (OwnE.alloc HO4.out (.cells (lkL ⟨f, t, R⟩ 1).toArray 131))
            have HB5 := Lib.hid (HB4.out.trans ((Below.alloc (Below.refl _ w4) (Nat.le_refl _) (.cells (lkL ⟨f, t, R⟩ 1).toArray 131)).mono HB4.out.size))
            have HN5 : Hid ((w4.alloc (.cells (lkL ⟨f, t, R⟩ 1).toArray 131)).heap[w4.heap.size]? = some (.cells (lkL ⟨f, t, R⟩ 1).toArray 131 (0, 0))) := Lib.hid (heap_alloc_new _ _)
            have hs5 : w4.heap.size < (w4.alloc (.cells (lkL ⟨f, t, R⟩ 1).toArray 131)).heap.size := by simp
            generalize w4.alloc (.cells (lkL ⟨f, t, R⟩ 1).toArray 131) = w5 at *
            have f5c := f5.cell
            have HF5 := Lib.hid f5
            have HS5 : Hid ((NewS B eb ty f t (.slice Bn b.ns.length dn) (.slice Be b.es.length de)) w5) := Lib.hid (newS_of HE5.out HP5.out)
            clear f5
            refine hK.out _ _ (HS5.out) (fun _ => ?_)
            clear hK K
            try simp only [Act.put, List.setIfInBounds_toArray, List.set_cons_zero, List.set_cons_succ]
            refine wpAnyH_ready (rs := [15]) (by kernel_rfl) (by simp) ?_
            refine AllReadyH.cons (oper_at (r := _) rfl) (fun K hK => ?_) AllReadyH.nil
            refine step_append_E (E := ELk) rfl _ _ 126 131 rfl Tryd.underlying126 infoLk rfl (by decide) (by decide) (B + 3) sv LS rfl HO5.out ⟨w4.heap.size, 0, none⟩ 1 ⟨f, t, R⟩ rfl (news_of HN5.out rfl) (by omega) (by have := H4.out; omega) ?_
            intro v' w6 ho6 hg6 hb6
            obtain ⟨a6, c6, hv6⟩ := OwnE.slice ho6
            generalize (LS ++ [(⟨f, t, R⟩ : Lk)]).length = n6 at hv6
            subst hv6
            obtain ⟨r1, r2, r3, r4, r5, r6, r7, r8⟩ := new_fin HBE.out HO5.out hg6 hb6 HE5.out HP5.out HF5.out HB5.out HSZ.out ho6
            have HS6 := Lib.hid r2
            have HS7 := Lib.hid r3
            have HR4 := Lib.hid r4
            have HR5 := Lib.hid r5
            have HR6 := Lib.hid r6
            have HR7 := Lib.hid r7
            have HR8 := Lib.hid r8
            have r1c := r1.cell
            have r1f := r1.frozen
            clear r1 r2 r3 r4 r5 r6 r7 r8 ho6 hg6 hb6
            refine hK.out _ _ (HS6.out) (fun _ => ?_)
            clear hK K
            try simp only [Act.put, List.setIfInBounds_toArray, List.set_cons_zero, List.set_cons_succ]
            refine wpAnyH_take (i := 16) (v := ?_) (oper_at (r := _) rfl) (by kernel_rfl) (by kernel_rfl) (by kernel_rfl) (fun _ _ _ h => h) (Or.inl ⟨by rfl, ?_⟩) (by assumption) ?_
            rotate_left
            · intro w hSw; try dsimp only [NewS] at hSw
              go_simp
              try with_reducible rfl
            try simp only [Act.put, List.setIfInBounds_toArray, List.set_cons_zero, List.set_cons_succ]
            refine wpAnyH_take (i := 17) (v := ?_) (oper_at (r := _) rfl) (by kernel_rfl) (by kernel_rfl) (by kernel_rfl) (fun _ _ _ h => h) (Or.inl ⟨by rfl, ?_⟩) (by assumption) ?_
            rotate_left
            · intro w hSw; try dsimp only [NewS] at hSw
              go_simp
              try with_reducible rfl
            try simp only [Act.put, List.setIfInBounds_toArray, List.set_cons_zero, List.set_cons_succ]
            refine wpAnyH_ready (rs := [18]) (by kernel_rfl) (by simp) ?_
            refine AllReadyH.cons (oper_at (r := _) rfl) (fun K hK => ?_) AllReadyH.nil
            go_simp
            refine hK.out _ _ (HS7.out) (fun _ => ?_)
            clear hK K
            try simp only [Act.put, List.setIfInBounds_toArray, List.set_cons_zero, List.set_cons_succ]
            refine wpAnyH_done (by kernel_rfl) ?_ _
            refine NoPanic.normal ?_
            go_wp2
            go_roundw
            case rel => exact ⟨k + 1, _, HL.out, by go_num, HR4.out, by rw [HSN.out]; exact HR5.out, HR6.out, HR7.out, HR8.out⟩
            case measure => exact HM.out
          · rw [if_pos (by rfl)]
            refine op_slice_link _ rfl f t R rfl ?_
            have f5 := HF4.out.alloc (.cells (lkL ⟨f, t, R⟩ 1).toArray 131)
            have HE5 := Lib.hid (heap_up (Below.alloc (Below.refl _ _) (Nat.le_refl _) (.cells (lkL ⟨f, t, R⟩ 1).toArray 131)) HE4.out)
            have HP5 := Lib.hid (heap_up (Below.alloc (Below.refl _ _) (Nat.le_refl _) (.cells (lkL ⟨f, t, R⟩ 1).toArray 131)) HP4.out)
            have HO5 := Lib.hid (OwnE.alloc HO4.out (.cells (lkL ⟨f, t, R⟩ 1).toArray 131))
            have HB5 := Lib.hid (HB4.out.trans ((Below.alloc (Below.refl _ w4) (Nat.le_refl _) (.cells (lkL ⟨f, t, R⟩ 1).toArray 131)).mono HB4.out.size))
            have HN5 : Hid ((w4.alloc (.cells (lkL ⟨f, t, R⟩ 1).toArray 131)).heap[w4.heap.size]? = some (.cells (lkL ⟨f, t, R⟩ 1).toArray 131 (0, 0))) := Lib.hid (heap_alloc_new _ _)
            have hs5 : w4.heap.size < (w4.alloc (.cells (lkL ⟨f, t, R⟩ 1).toArray 131)).heap.size := by simp
            generalize w4.alloc (.cells (lkL ⟨f, t, R⟩ 1).toArray 131) = w5 at *
            have f5c := f5.cell
            have HF5 := Lib.hid f5
            have HS5 : Hid ((NewS B eb ty f t (.slice Bn b.ns.length dn) (.slice Be b.es.length de)) w5) := Lib.hid (newS_of HE5.out HP5.out)
            clear f5
            refine hK.out _ _ (HS5.out) (fun _ => ?_)
            clear hK K
            try simp only [Act.put, List.setIfInBounds_toArray, List.set_cons_zero, List.set_cons_succ]
            refine wpAnyH_ready (rs := [4]) (by kernel_rfl) (by simp) ?_
            refine AllReadyH.cons (oper_at (r := _) rfl) (fun K hK => ?_) AllReadyH.nil
            go_simp
            refine hK.out _ _ (HS5.out) (fun _ => ?_)
            clear hK K
            try simp only [Act.put, List.setIfInBounds_toArray, List.set_cons_zero, List.set_cons_succ]
            refine wpAnyH_ready (rs := [15]) (by kernel_rfl) (by simp) ?_
            refine AllReadyH.cons (oper_at (r := _) rfl) (fun K hK => ?_) AllReadyH.nil
            refine step_append_E (E := ELk) rfl _ _ 126 131 rfl Tryd.underlying126 infoLk rfl (by decide) (by decide) (B + 3) sv LS rfl HO5.out ⟨w4.heap.size, 0, none⟩ 1 ⟨f, t, R⟩ rfl (news_of HN5.out rfl) (by omega) (by have := H4.out; omega) ?_
            intro v' w6 ho6 hg6 hb6
            obtain ⟨a6, c6, hv6⟩ := OwnE.slice ho6
            generalize (LS ++ [(⟨f, t, R⟩ : Lk)]).length = n6 at hv6
            subst hv6
            obtain ⟨r1, r2, r3, r4, r5, r6, r7, r8⟩ := new_fin HBE.out HO5.out hg6 hb6 HE5.out HP5.out HF5.out HB5.out HSZ.out ho6
            have HS6 := Lib.hid r2
            have HS7 := Lib.hid r3
            have HR4 := Lib.hid r4
            have HR5 := Lib.hid r5
            have HR6 := Lib.hid r6
            have HR7 := Lib.hid r7
            have HR8 := Lib.hid r8
            have r1c := r1.cell
            have r1f := r1.frozen
            clear r1 r2 r3 r4 r5 r6 r7 r8 ho6 hg6 hb6
            refine hK.out _ _ (HS6.out) (fun _ => ?_)
            clear hK K
            try simp only [Act.put, List.setIfInBounds_toArray, List.set_cons_zero, List.set_cons_succ]
            refine wpAnyH_take (i := 16) (v := ?_) (oper_at (r := _) rfl) (by kernel_rfl) (by kernel_rfl) (by kernel_rfl) (fun _ _ _ h => h) (Or.inl ⟨by rfl, ?_⟩) (by assumption) ?_
            rotate_left
            · intro w hSw; try dsimp only [NewS] at hSw
              go_simp
              try with_reducible rfl
            try simp only [Act.put, List.setIfInBounds_toArray, List.set_cons_zero, List.set_cons_succ]
            refine wpAnyH_take (i := 17) (v := ?_) (oper_at (r := _) rfl) (by kernel_rfl) (by kernel_rfl) (by kernel_rfl) (fun _ _ _ h => h) (Or.inl ⟨by rfl, ?_⟩) (by assumption) ?_
            rotate_left
            · intro w hSw; try dsimp only [NewS] at hSw
              go_simp
              try with_reducible rfl
            try simp only [Act.put, List.setIfInBounds_toArray, List.set_cons_zero, List.set_cons_succ]
            refine wpAnyH_ready (rs := [18]) (by kernel_rfl) (by simp) ?_
            refine AllReadyH.cons (oper_at (r := _) rfl) (fun K hK => ?_) AllReadyH.nil
            go_simp
            refine hK.out _ _ (HS7.out) (fun _ => ?_)
            clear hK K
            try simp only [Act.put, List.setIfInBounds_toArray, List.set_cons_zero, List.set_cons_succ]
            refine wpAnyH_done (by kernel_rfl) ?_ _
            refine NoPanic.normal ?_
            go_wp2
            go_roundw
            case rel => exact ⟨k + 1, _, HL.out, by go_num, HR4.out, by rw [HSN.out]; exact HR5.out, HR6.out, HR7.out, HR8.out⟩
            case measure => exact HM.out
    · obtain rfl : k = a.es.length := by omega
      rw [List.take_length] at q2
      have hx1 := q1
      clear hlt hk
      go_wp2
      go_ret
      obtain ⟨g, A, cap, h1, h2⟩ := new_at q1 q2 (by omega)
      exact ⟨B + 1 + 1, g, A, cap, rfl, h1, by have := HBE.out; omega, fun h => by have := HBE.out; have := h2 h; omega, q4⟩

end Go.Proofs.YtaeelanbkdkppaaDoor

