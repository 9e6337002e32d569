/-
  A loop over an iterator that hands over the values of a list in their order, none left out: each round knows which one it has.
-/
import Derived.RangeFuncNested
import Derived.RangeFuncBound
import Derived.RangeFuncCalls
import Derived.RangeFuncLeaves
import Derived.Test.YtcmibhechhcpiaaBase
namespace Go.Proofs.Ytcmibhechhcpiaa
open Go.RowKit

/-- the iterator calls its round N times, the k-th time with E k -/
def Gives (F : Fence) (n : Nat) (P : Program) (g : Nat) (lb : Array Value) (E : Nat → Array Value) (Kp : World → World → Prop) (N : Nat) (w : World) : Prop :=
  ∀ (l : Nat) (J : Nat → World → Prop) (W : World), Below w.heap.size w W → (∀ k V, J k V → k < N → YieldAt F (n - 1) P l (E k) V fun e V' => e = .returned (.bool true) ∧ J (k + 1) V' ∧ Kp V V') → J 0 W →
    CallsIn F n P g (#[.func (.yield l) #[] #[]] ++ lb) W fun e W' => (∃ v, e = .returned v) ∧ J N W'

theorem keepsFrom_of_below {B : Nat} {u u' : World} (h : Below u.heap.size u u') : KeepsFrom B u u' := ⟨h.size, fun k _ _ hk _ => (h.block k (Array.getElem?_eq_some_iff.1 hk).1).trans hk⟩

variable {F : Fence} {n : Nat} {P : Program} {w : World}

/-- how a round's body may end -/
def roundEnd (B : Nat) (Kp : World → World → Prop) (I : World → Prop) (W : World) : Exit → Act → World → Prop
  | .normal, _, W' => KeepsFrom B W W' ∧ Kp W W' ∧ I W'
  | _, _, _ => False

set_option maxHeartbeats 400000 in
theorem wpIn_ordered {g : Operand} {ps : Array Tmp} {assign body : Code} {Q : Exit → Act → World → Prop} {a : Act} (hro : F.round = none) (h1 : 1 ≤ n) {gf : Nat} {lb : Array Value} (hg : a.eval g = .func (.func gf) #[] lb) (hFg : F.fn gf)
    (eg : ∀ args u, (callFunc gf args).run P u = .ok (.enter gf args) u) {E : Nat → Array Value} {Kp : World → World → Prop} {N : Nat} (hseq : Gives F (n - 1) P gf lb E Kp N w) (hKt : ∀ {A B C : World}, Kp A B → Kp B C → Kp A C)
    (hKb : ∀ (W : World) (l : Nat) (o o' : Obj), w.heap.size ≤ l → W.heap[l]? = some o → o.isCells = false → o.isWalk = false → Kp W (W.putObj l o')) (hps : ∀ k, (E k).size = ps.size)
    (I : Nat → World → Prop) (hI : OwnFrom w.heap.size I) (h0 : I 0 w) (S : Nat → Act → World → Prop) (hS : ∀ k a', OwnFrom w.heap.size (fun (_ : Unit) W => S k a' W))
    (hassign : ∀ (l k : Nat) (W : World) (K : Act → World → Prop), I k W → k < N → (∀ a' W', KeepsFrom w.heap.size W W' → Kp W W' → S k a' W' → K a' W') →
      assign.wpIn (F.inRound l) (n - 1 - 1) P (Exit.then K (fun _ _ _ => False)) { tmps := (ps.zip (E k)).foldl (fun t (p, v) => t.setIfInBounds p v) a.tmps, defers := [] } W)
    (hbody : ∀ (l k : Nat) (a' : Act) (W : World), k < N → S k a' W → body.wpIn (F.inRound l) (n - 1 - 1) P (roundEnd w.heap.size Kp (I (k + 1)) W) a' W)
    (hdone : ∀ (D : Nat) (W : World), w.heap.size ≤ D → I N W → W.heap[D]? = some (.deferred (some [])) → Q .normal { a with defers := { target := .collected D, args := #[] } :: a.defers } W) :
    (Code.rangeFunc g ps assign body).wpIn F n P Q a w := by
  refine wpIn_rangeFunc ?_
  intro fn hfn
  rw [hro]
  obtain ⟨rec, hrec⟩ : ∃ rec : LoopState → Loop, ∀ st, rec st = { state := st, pending := none, fn := fn, tmps := a.tmps, params := ps, assign := assign, body := body, defers := w.heap.size } := ⟨_, fun _ => rfl⟩
  obtain ⟨V, hV⟩ : ∃ V, V = (w.alloc (.deferred (some []))).alloc (.loop (rec .ready)) := ⟨_, rfl⟩
  have hent := run_enterLoop_outer (P := P) (w := w) fn a.tmps ps assign body
  rw [← hrec .ready, ← hV] at hent
  have hD : V.heap[w.heap.size]? = some (.deferred (some [])) := by rw [hV]; exact heap_two _ _ _
  have hL : V.heap[w.heap.size + 1]? = some (.loop (rec .ready)) := by rw [hV]; exact heap_two' _ _ _
  have hbV : Below w.heap.size w V := by rw [hV]; exact ((Below.refl _ _).alloc (Nat.le_refl _) _).alloc (by simp) _
  have hIV : I 0 V := by rw [hV]; exact hI.alloc _ (hI.alloc _ h0)
  clear hV
  refine ⟨w.heap.size + 1, [{ target := .collected w.heap.size, args := #[] }], V, { target := .fn (.func gf) lb, args := #[.func (.yield (w.heap.size + 1)) #[] #[]] }, V, gf,
    #[.func (.yield (w.heap.size + 1)) #[] #[]] ++ lb, V, hent, ?_, ?_, ?_, fun _ => h1, ?_⟩
  · simp only [resolve, hg]
    simp [go_sem]
  · intro f' hf'
    simp [Target.leads] at hf'
    subst hf'
    exact hFg
  · simp [invoke, go_sem, eg]
  refine (hseq (w.heap.size + 1) (fun k W => I k W ∧ W.heap[w.heap.size + 1]? = some (.loop (rec .ready)) ∧ W.heap[w.heap.size]? = some (.deferred (some []))) V hbV ?_ ⟨hIV, hL, hD⟩).mono ?_
  · rintro k W ⟨hi, hl, hd⟩ hk
    have hy := run_yield (P := P) (args := E k) hl (by rw [hrec]; exact hps k)
    rw [hrec] at hy
    refine ⟨fn, _, assign, body, hy, roundIn_of_wpIn hfn (hassign _ k W _ hi hk fun a' W1 hk1 hp1 hs1 => ?_)⟩
    have hl1 := hk1.same _ _ (by omega) hl rfl
    have hd1 := hk1.same _ _ (Nat.le_refl _) hd rfl
    have hlt : w.heap.size + 1 < W1.heap.size := (Array.getElem?_eq_some_iff.1 hl1).1
    have hbusy := run_beginRound (P := P) hl1 (by rw [hrec])
    generalize hb : ({ rec .ready with state := .busy } : Loop) = busy at hbusy
    have hl2 : (W1.putObj (w.heap.size + 1) (.loop busy)).heap[w.heap.size + 1]? = some (.loop busy) := World.putObj_heap_same hlt
    have hd2 : (W1.putObj (w.heap.size + 1) (.loop busy)).heap[w.heap.size]? = some (.deferred (some [])) := (World.putObj_heap_other (by omega)).trans hd1
    refine ⟨_, hbusy, wpIn_mono (hbody _ k a' _ hk ((hS k a').putObj (s := ()) _ hs1 (by omega) hl1 rfl)) ?_⟩
    rintro e a3 W3 hp
    cases e with
    | normal =>
      obtain ⟨hk3, hp3, hi3⟩ := hp
      have hl3 := hk3.same _ _ (by omega) hl2 rfl
      have hd3 := hk3.same _ _ (Nat.le_refl _) hd2 rfl
      have hend := run_endRound (P := P) none hl3
      have hr : ({ busy with state := if (none : Option Code).isNone then .ready else .done, pending := none } : Loop) = rec .ready := by rw [← hb, hrec]; rfl
      rw [hr] at hend
      refine ⟨_, _, hend, rfl, ⟨hI.putObj _ hi3 (by omega) hl3 rfl, World.putObj_heap_same (Array.getElem?_eq_some_iff.1 hl3).1, (World.putObj_heap_other (by omega)).trans hd3⟩, ?_⟩
      exact hKt hp1 (hKt (hKb _ _ _ _ (by omega) hl1 rfl rfl) (hKt hp3 (hKb _ _ _ _ (by omega) hl3 rfl rfl)))
    | _ => exact hp.elim
  · rintro e W2 ⟨⟨v, rfl⟩, hi, hl, hd⟩
    have hend := run_endLoop (P := P) hl (by rw [hrec]; simp)
    rw [show (rec .ready).pending = none by rw [hrec]] at hend
    exact ⟨none, _, hend, hdone _ _ (Nat.le_refl _) (hI.putObj _ hi (by omega) hl rfl) ((World.putObj_heap_other (by omega)).trans hd)⟩

end Go.Proofs.Ytcmibhechhcpiaa
