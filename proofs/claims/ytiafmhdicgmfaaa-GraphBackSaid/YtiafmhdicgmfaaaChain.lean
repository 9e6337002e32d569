/-
  A drawn region of calls that wait for one another and allocations that come whenever they like: one walk of the calls, whatever the order.
-/
import Derived.Test.YtiafmhdicgmfaaaBase
import Derived.Deep.RegionHeld3
namespace Go.Proofs.Ytiafmhdicgmfaaa
open Go.RowKit

theorem op_at {l r : List Oper} {i : Nat} {o : Oper} (h : l.drop i = o :: r) : l.toArray[i]? = some o := by
  have h2 : (l.drop i)[0]? = some o := by rw [h]; rfl
  rw [List.getElem?_drop] at h2
  simpa using h2

/-! what has come up, and what it left -/
def mkd (L : Array Bool) : List Nat → Array Bool
  | [] => L
  | i :: r => mkd (L.setIfInBounds i true) r
def mkm (L : Array Bool) : List Nat → List Bool → Array Bool
  | i :: r, b :: m => mkm (if b then L.setIfInBounds i true else L) r m
  | _, _ => L
def pud (a : Act) : List Nat → List Value → Act
  | d :: r, v :: vs => pud (a.put (some d) v) r vs
  | _, _ => a
def pup (a : Act) : List Nat → List (Option Nat) → Act
  | d :: r, b :: bs => pup (match b with | some k => a.put (some d) (.pointer (some ⟨k, 0, none⟩)) | none => a) r bs
  | _, _ => a
theorem set_comm_true (L : Array Bool) (i j : Nat) : (L.setIfInBounds i true).setIfInBounds j true = (L.setIfInBounds j true).setIfInBounds i true := by
  by_cases h : i = j
  · subst h; rfl
  · exact Array.setIfInBounds_comm _ _ h
theorem mkd_snoc (L : Array Bool) (is : List Nat) (j : Nat) : mkd L (is ++ [j]) = (mkd L is).setIfInBounds j true := by
  induction is generalizing L with
  | nil => rfl
  | cons i r ih => exact ih _
theorem mkm_set (L : Array Bool) (is : List Nat) (m : List Bool) (j : Nat) : (mkm L is m).setIfInBounds j true = mkm (L.setIfInBounds j true) is m := by
  induction is generalizing L m with
  | nil => rfl
  | cons i r ih =>
    cases m with
    | nil => rfl
    | cons b m =>
      simp only [mkm]
      rw [ih]
      cases b
      · rfl
      · simp only [if_true]; rw [set_comm_true]
theorem mkm_on (L : Array Bool) (is : List Nat) (m : List Bool) (k i : Nat) (hi : is[k]? = some i) (hm : m[k]? = some false) : (mkm L is m).setIfInBounds i true = mkm L is (m.set k true) := by
  induction is generalizing L m k with
  | nil => simp at hi
  | cons x r ih =>
    cases m with
    | nil => simp at hm
    | cons b m =>
      cases k with
      | zero =>
        simp only [List.getElem?_cons_zero, Option.some.injEq] at hi hm
        subst hi hm
        simp only [List.set_cons_zero, mkm, if_true]
        rw [mkm_set]
        rfl
      | succ k =>
        simp only [List.getElem?_cons_succ] at hi hm
        simp only [List.set_cons_succ, mkm]
        exact ih _ _ _ hi hm
theorem put_comm' (a : Act) {d e : Nat} (u v : Value) (h : d ≠ e) : (a.put (some d) u).put (some e) v = (a.put (some e) v).put (some d) u :=
  Act.put_comm a u v (fun x hx => by injection hx with hx; subst hx; exact fun e2 => h (by injection e2 with e2; exact e2.symm))
theorem pup_put (a : Act) (ds : List Nat) (bs : List (Option Nat)) (d : Nat) (v : Value) (h : d ∉ ds) : (pup a ds bs).put (some d) v = pup (a.put (some d) v) ds bs := by
  induction ds generalizing a bs with
  | nil => rfl
  | cons x r ih =>
    cases bs with
    | nil => rfl
    | cons b bs =>
      simp only [pup]
      rw [ih _ _ (fun hm => h (List.mem_cons_of_mem _ hm))]
      cases b with
      | none => rfl
      | some k => simp only; rw [put_comm' a _ _ (fun e => h (by rw [← e]; exact List.mem_cons_self))]
theorem pup_on (a : Act) (ds : List Nat) (bs : List (Option Nat)) (k d b : Nat) (hn : ds.Nodup) (hd : ds[k]? = some d) (hb : bs[k]? = some none) : (pup a ds bs).put (some d) (.pointer (some ⟨b, 0, none⟩)) = pup a ds (bs.set k (some b)) := by
  induction ds generalizing a bs k with
  | nil => simp at hd
  | cons x r ih =>
    obtain ⟨h1, h2⟩ := List.nodup_cons.1 hn
    cases bs with
    | nil => simp at hb
    | cons y bs =>
      cases k with
      | zero =>
        simp only [List.getElem?_cons_zero, Option.some.injEq] at hd hb
        subst hd hb
        simp only [List.set_cons_zero, pup]
        exact pup_put a r bs x _ h1
      | succ k =>
        simp only [List.getElem?_cons_succ] at hd hb
        simp only [List.set_cons_succ, pup]
        exact ih _ _ _ h2 hd hb
theorem pud_snoc (a : Act) (ds : List Nat) (vs : List Value) (d : Nat) (v : Value) (h : ds.length = vs.length) : pud a (ds ++ [d]) (vs ++ [v]) = (pud a ds vs).put (some d) v := by
  induction ds generalizing a vs with
  | nil =>
    cases vs with
    | nil => rfl
    | cons _ _ => simp at h
  | cons x r ih =>
    cases vs with
    | nil => simp at h
    | cons u vs =>
      simp only [List.cons_append, pud]
      exact ih _ _ (by simpa using h)
theorem pup_eval (a : Act) (ds : List Nat) (bs : List (Option Nat)) (x : Operand) (h : ∀ d ∈ ds, x ≠ .tmp d) : (pup a ds bs).eval x = a.eval x := by
  induction ds generalizing a bs with
  | nil => rfl
  | cons y r ih =>
    cases bs with
    | nil => rfl
    | cons b bs =>
      simp only [pup]
      rw [ih _ _ (fun d hd => h d (List.mem_cons_of_mem _ hd))]
      cases b with
      | none => rfl
      | some k => exact Act.eval_put fun d hd => by injection hd with hd; subst hd; exact h _ List.mem_cons_self

theorem put_size (a : Act) (d : Option Nat) (v : Value) : (a.put d v).tmps.size = a.tmps.size := by
  cases d with
  | none => rfl
  | some d => simp [Act.put]
theorem put_get (a : Act) {d : Nat} (v : Value) (h : d < a.tmps.size) : (a.put (some d) v).eval (.tmp d) = v := by
  simp [Act.put, Act.eval, h]
theorem pud_eval (a : Act) (ds : List Nat) (vs : List Value) (x : Operand) (h : ∀ d ∈ ds, x ≠ .tmp d) : (pud a ds vs).eval x = a.eval x := by
  induction ds generalizing a vs with
  | nil => rfl
  | cons y r ih =>
    cases vs with
    | nil => rfl
    | cons v vs =>
      simp only [pud]
      rw [ih _ _ (fun d hd => h d (List.mem_cons_of_mem _ hd))]
      exact Act.eval_put fun d hd => by injection hd with hd; subst hd; exact h _ List.mem_cons_self
/-- what the chain has left in its slot j -/
theorem pud_get (a : Act) (ds : List Nat) (vs : List Value) (j d : Nat) (v : Value) (hn : ds.Nodup) (hd : ds[j]? = some d) (hv : vs[j]? = some v) (hs : d < a.tmps.size) : (pud a ds vs).eval (.tmp d) = v := by
  induction ds generalizing a vs j with
  | nil => simp at hd
  | cons y r ih =>
    obtain ⟨h1, h2⟩ := List.nodup_cons.1 hn
    cases vs with
    | nil => simp at hv
    | cons u vs =>
      cases j with
      | zero =>
        simp only [List.getElem?_cons_zero, Option.some.injEq] at hd hv
        subst hd hv
        simp only [pud]
        rw [pud_eval _ _ _ _ (fun e he h => by injection h with h; subst h; exact h1 he)]
        exact put_get _ _ hs
      | succ j =>
        simp only [List.getElem?_cons_succ] at hd hv
        simp only [pud]
        exact ih _ _ _ h2 hd hv (by rw [put_size]; exact hs)
/-- the two ways in which a step reads its operands: a slot from before the region; a value of the chain -/
theorem ev_old {A a0 : Act} {ds : List Nat} {vs : List Value} {al : List Nat} {bs : List (Option Nat)} (hA : pup (pud a0 ds vs) al bs = A) {s : Nat} {v : Value} (h : a0.eval (.tmp s) = v) (h1 : ds.contains s = false) (h2 : al.contains s = false) : A.eval (.tmp s) = v := by
  rw [← hA, pup_eval _ _ _ _ (fun d hd e => by injection e with e; subst e; rw [List.contains_eq_mem, decide_eq_false_iff_not] at h2; exact h2 hd), pud_eval _ _ _ _ (fun d hd e => by injection e with e; subst e; rw [List.contains_eq_mem, decide_eq_false_iff_not] at h1; exact h1 hd)]
  exact h
theorem ev_new {A a0 : Act} {ds : List Nat} {vs : List Value} {al : List Nat} {bs : List (Option Nat)} (hA : pup (pud a0 ds vs) al bs = A) (j : Nat) {s : Nat} {v : Value} (hn : ds.Nodup) (hd : ds[j]? = some s) (hv : vs[j]? = some v) (hs : s < a0.tmps.size) (h2 : al.contains s = false) : A.eval (.tmp s) = v := by
  rw [← hA, pup_eval _ _ _ _ (fun d hd e => by injection e with e; subst e; rw [List.contains_eq_mem, decide_eq_false_iff_not] at h2; exact h2 hd)]
  exact pud_get _ _ _ j _ _ hn hd hv hs
theorem ev_const (A : Act) (v : Value) : A.eval (.const v) = v := rfl
theorem ev_raw {A : Act} {s : Nat} {v : Value} (h : A.eval (.tmp s) = v) : A.tmps[s]?.getD undef = v := by
  simpa [Act.eval] using h

/-! the one check of the region's order -/
def masks : Nat → List (List Bool)
  | 0 => [[]]
  | n + 1 => (masks n).flatMap fun m => [false :: m, true :: m]
theorem mem_masks (m : List Bool) : m ∈ masks m.length := by
  induction m with
  | nil => simp [masks]
  | cons b m ih =>
    simp only [List.length_cons, masks, List.mem_flatMap]
    exact ⟨m, ih, by cases b <;> simp⟩
def pend : List Nat → List Bool → Nat → Bool
  | i :: r, b :: m, j => (!b && i == j) || pend r m j
  | _, _, _ => false
theorem pend_at {is : List Nat} {m : List Bool} {j : Nat} (h : pend is m j = true) : ∃ k : Nat, is[k]? = some j ∧ m[k]? = some false := by
  induction is generalizing m with
  | nil => simp [pend] at h
  | cons i r ih =>
    cases m with
    | nil => simp [pend] at h
    | cons b m =>
      simp only [pend, Bool.or_eq_true, Bool.and_eq_true, Bool.not_eq_true', beq_iff_eq] at h
      rcases h with ⟨rfl, rfl⟩ | h
      · exact ⟨0, rfl, rfl⟩
      · obtain ⟨k, h1, h2⟩ := ih h
        exact ⟨k + 1, h1, h2⟩
/-- the chain's operations (those that are pure are marked), the allocations -/
def chk (md : Region.Mode) (ops : Array Oper) (L : Array Bool) (cs : List Nat) (pure : List Bool) (is : List Nat) : Bool :=
  (List.range (cs.length + 1)).all fun c => (masks is.length).all fun m =>
    match cs[c]? with
    | some i => if pure.getD c false then (Region.ready md ops (mkm (mkd L (cs.take c)) is m)).contains i && Region.free md ops (mkm (mkd L (cs.take c)) is m) i
        else !(Region.ready md ops (mkm (mkd L (cs.take c)) is m)).isEmpty && (Region.ready md ops (mkm (mkd L (cs.take c)) is m)).all fun j => j == i || pend is m j
    | none => m.all id || (!(Region.ready md ops (mkm (mkd L (cs.take c)) is m)).isEmpty && (Region.ready md ops (mkm (mkd L (cs.take c)) is m)).all (pend is m))

structure Al where
  i : Nat
  d : Nat
  o : Obj
/-- the blocks that have been made: new, each with its object, no two the same -/
def AlOk (n : Nat) (w : World) : List Al → List (Option Nat) → Prop
  | x :: r, b :: bs => (∀ k, b = some k → w.heap[k]? = some x.o ∧ n ≤ k ∧ some k ∉ bs) ∧ AlOk n w r bs
  | _, _ => True
theorem AlOk.up {n : Nat} {w w' : World} {al : List Al} {bs : List (Option Nat)} (h : AlOk n w al bs) (hb : ∀ (i : Nat) (o : Obj), w.heap[i]? = some o → w'.heap[i]? = some o) : AlOk n w' al bs := by
  induction al generalizing bs with
  | nil => cases bs <;> trivial
  | cons x r ih =>
    cases bs with
    | nil => trivial
    | cons b bs => exact ⟨fun k hk => by obtain ⟨h1, h2⟩ := h.1 k hk; exact ⟨hb _ _ h1, h2⟩, ih h.2⟩
theorem AlOk.lt {n : Nat} {w : World} {al : List Al} {bs : List (Option Nat)} (h : AlOk n w al bs) (hl : bs.length = al.length) {k : Nat} (hk : some k ∈ bs) : k < w.heap.size := by
  induction al generalizing bs with
  | nil => cases bs with
    | nil => cases hk
    | cons _ _ => simp at hl
  | cons x r ih =>
    cases bs with
    | nil => cases hk
    | cons b bs =>
      rcases List.mem_cons.1 hk with e | hk
      · exact (Array.getElem?_eq_some_iff.1 (h.1 k e.symm).1).1
      · exact ih h.2 (by simpa using hl) hk
theorem mem_set_some {bs : List (Option Nat)} {j k : Nat} {b : Nat} (h : some k ∈ bs.set j (some b)) : k = b ∨ some k ∈ bs := by
  rcases List.mem_or_eq_of_mem_set h with h | h
  · exact .inr h
  · injection h with h; exact .inl h
theorem AlOk.on {n : Nat} {w w' : World} {al : List Al} {bs : List (Option Nat)} (h : AlOk n w al bs) (hl : bs.length = al.length) {j b : Nat} {x : Al} (hx : al[j]? = some x) (hj : bs[j]? = some none)
    (hb : ∀ (i : Nat) (o : Obj), w.heap[i]? = some o → w'.heap[i]? = some o) (h1 : w'.heap[b]? = some x.o) (h2 : n ≤ b) (h3 : ∀ k, some k ∈ bs → k ≠ b) : AlOk n w' al (bs.set j (some b)) := by
  induction al generalizing bs j with
  | nil => simp at hx
  | cons y r ih =>
    cases bs with
    | nil => simp at hj
    | cons c bs =>
      cases j with
      | zero =>
        simp only [List.getElem?_cons_zero, Option.some.injEq] at hx hj
        subst hx hj
        simp only [List.set_cons_zero]
        refine ⟨fun k hk => ?_, h.2.up hb⟩
        injection hk with hk
        subst hk
        exact ⟨h1, h2, fun hm => h3 _ (List.mem_cons_of_mem _ hm) rfl⟩
      | succ j =>
        simp only [List.getElem?_cons_succ] at hx hj
        simp only [List.set_cons_succ]
        refine ⟨fun k hk => ?_, ih h.2 (by simpa using hl) hx hj fun k hk => h3 k (List.mem_cons_of_mem _ hk)⟩
        obtain ⟨g1, g2, g3⟩ := h.1 k hk
        refine ⟨hb _ _ g1, g2, fun hm => ?_⟩
        rcases mem_set_some hm with e | hm
        · exact h3 k (by rw [hk]; exact List.mem_cons_self) e
        · exact g3 hm

def unmade (bs : List (Option Nat)) : Nat := (bs.filter (·.isNone)).length
theorem unmade_set {bs : List (Option Nat)} {j b : Nat} (h : bs[j]? = some none) : unmade bs = unmade (bs.set j (some b)) + 1 := by
  unfold unmade
  induction bs generalizing j with
  | nil => simp at h
  | cons c bs ih =>
    cases j with
    | zero =>
      simp only [List.getElem?_cons_zero, Option.some.injEq] at h
      subst h
      simp
    | succ j =>
      simp only [List.getElem?_cons_succ] at h
      have := ih h
      simp only [List.set_cons_succ, List.filter_cons]
      cases c <;> simp at this ⊢ <;> omega
theorem unmade_pos {bs : List (Option Nat)} {j : Nat} (h : bs[j]? = some none) : 0 < unmade bs := by have := unmade_set (b := 0) h; omega
theorem unmade_zero {bs : List (Option Nat)} (h : unmade bs = 0) : ∃ ks : List Nat, bs = ks.map some := by
  unfold unmade at h
  induction bs with
  | nil => exact ⟨[], rfl⟩
  | cons c bs ih =>
    cases c with
    | none => simp at h
    | some k =>
      obtain ⟨ks, hk⟩ := ih (by simpa using h)
      exact ⟨k :: ks, by rw [hk]; rfl⟩
theorem isSome_set (bs : List (Option Nat)) (j b : Nat) : (bs.set j (some b)).map (·.isSome) = (bs.map (·.isSome)).set j true := by
  induction bs generalizing j with
  | nil => rfl
  | cons c bs ih => cases j with
    | zero => rfl
    | succ j => simp only [List.set_cons_succ, List.map_cons, ih]

section
variable {P : Program} {ops : Array Oper} {Q : Exit → Act → World → Prop} {md : Region.Mode} {S : World → Prop}

theorem wpAnyH_act {n : Nat} {L : Array Bool} {a : Act} {w : World} (h : ∀ a0, a0 = a → wpAnyH P md ops Q S n L a0 w) : wpAnyH P md ops Q S n L a w := h a rfl
/-- A step of the chain: a value in every world that meets S, or a call. -/
def ChStep (P : Program) (ops : Array Oper) (Q : Exit → Act → World → Prop) (S : World → Prop) (F : Value → World → Prop) (pure : Bool) (i d : Nat) (a : Act) (w : World) : Prop :=
  if pure then ∃ o, ops[i]? = some o ∧ o.dst = some d ∧ ∃ v, YieldsIf P ops S o v a ∧ F v w
  else ∀ K : Act → World → Prop, (∀ v w', F v w' → Below w.heap.size w w' → K (a.put (some d) v) w') → wpOp P ops Q i K a w
theorem ChStep.pure {F : Value → World → Prop} {i d : Nat} {a : Act} {w : World} {o : Oper} {v : Value} (ho : ops[i]? = some o) (hd : o.dst = some d) (hg : Region.wanted o (yielded ops a.tmps) = true) (hv : ∀ w, S w → (execOp a.eval o).run P w = .ok (.value v) w) (hF : F v w) : ChStep P ops Q S F true i d a w := by
  unfold ChStep
  rw [if_pos rfl]
  exact ⟨o, ho, hd, v, .inl ⟨hg, hv⟩, hF⟩
theorem ChStep.call {F : Value → World → Prop} {i d : Nat} {a : Act} {w : World} {o : Oper} {f : FuncId} {xs : Array Operand} {ts : Array TypeId} {args : Array Value} (ho : ops[i]? = some o) (hd : o.dst = some d) (hg : Region.wanted o (yielded ops a.tmps) = true)
    (hop : o.op = .call { callee := .value (.func f), args := xs, argTypes := ts }) (hargs : xs.map a.eval = args) (hcf : (callFunc f args).run P w = .ok (.enter f args) w) (h : Calls P f args w fun e w' => (∃ v, e = .returned v ∧ F v w') ∧ Below w.heap.size w w') : ChStep P ops Q S F false i d a w := by
  unfold ChStep
  rw [if_neg (by simp)]
  intro K hK
  unfold wpOp
  simp only [ho, hg, if_true]
  refine .inl ?_
  unfold Oper.wp execOp
  simp only [hop, resolve, hargs, Act.eval, Deferred.ofValue, invoke, Sem.run_bind, Sem.run_pure, Result.andThen_ok, Array.empty_append, Array.append_empty, hcf, Oper.upon, hd]
  refine Calls.mono h ?_
  rintro e w' ⟨⟨v, rfl, hF⟩, hb⟩
  exact hK v w' hF hb

theorem chain_region (S : World → Prop) (F : Nat → Value → World → Prop) (a0 : Act) (L0 : Array Bool) (cs ds : List Nat) (pure : List Bool) (al : List Al) (w0 : World) (f0 : Nat)
    (hcd : ds.length = cs.length) (hdis : ∀ d ∈ ds, d ∉ al.map (·.d)) (hnd : (al.map (·.d)).Nodup) (hsel : Region.noSelect ops = true)
    (hQ : ∀ c a d v w, Q (.panic c) (Act.put a d v) w → Q (.panic c) a w)
    (hchk : chk md ops L0 cs pure (al.map (·.i)) = true)
    (hal : ∀ x ∈ al, ∃ o, ops[x.i]? = some o ∧ o.dst = some x.d ∧ ∀ (a : Act) w, Region.wanted o (yielded ops a.tmps) = true ∧ (execOp a.eval o).run P w = .ok (.value (.pointer (some ⟨w.heap.size, 0, none⟩))) (w.alloc x.o))
    (hS : ∀ w w', S w → Below w.heap.size w w' → S w') (hF : ∀ j v w w', F j v w → Below w.heap.size w w' → F j v w')
    (hstep : ∀ (c i d : Nat) (rs : List Value) (bs : List (Option Nat)) w, rs.length = c → bs.length = al.length → cs[c]? = some i → ds[c]? = some d → S w → (∀ j r, rs[j]? = some r → F j r w) → w0.heap.size ≤ w.heap.size → ChStep P ops Q S (F c) (pure.getD c false) i d (pup (pud a0 (ds.take c) rs) (al.map (·.d)) bs) w)
    (hfin : ∀ (rs : List Value) (ks : List Nat) w, rs.length = cs.length → ks.length = al.length → S w → (∀ j r, rs[j]? = some r → F j r w) → AlOk w0.heap.size w al (ks.map some) → Below w0.heap.size w0 w →
      wpAnyH P md ops Q S f0 (mkm (mkd L0 cs) (al.map (·.i)) (List.replicate al.length true)) (pup (pud a0 ds rs) (al.map (·.d)) (ks.map some)) w)
    (hS0 : S w0) (n : Nat) (hn : n = f0 + (cs.length + al.length)) :
    wpAnyH P md ops Q S n L0 a0 w0 := by
  have main : ∀ (k c : Nat) (rs : List Value) (bs : List (Option Nat)) (w : World), rs.length = c → c ≤ cs.length → bs.length = al.length → (cs.length - c) + unmade bs = k → S w → (∀ j r, rs[j]? = some r → F j r w) → AlOk w0.heap.size w al bs → Below w0.heap.size w0 w →
      wpAnyH P md ops Q S (f0 + k) (mkm (mkd L0 (cs.take c)) (al.map (·.i)) (bs.map (·.isSome))) (pup (pud a0 (ds.take c) rs) (al.map (·.d)) bs) w := by
    intro k
    induction k with
    | zero =>
      intro c rs bs w h1 h2 h3 h4 h5 h6 h7 h8
      have hc : c = cs.length := by omega
      subst hc
      obtain ⟨ks, rfl⟩ := unmade_zero (bs := bs) (by omega)
      have h9 : ks.length = al.length := by simpa using h3
      have e1 : cs.take cs.length = cs := List.take_length
      have e2 : ds.take cs.length = ds := by rw [← hcd]; exact List.take_length
      have e3 : (ks.map some).map (fun x => Option.isSome x) = List.replicate al.length true := by
        rw [List.map_map, ← h9]
        exact (List.eq_replicate_iff.2 ⟨by simp, fun b hb => by obtain ⟨x, _, rfl⟩ := List.mem_map.1 hb; rfl⟩)
      rw [e1, e2, e3]
      exact hfin rs ks w h1 h9 h5 h6 h7 h8
    | succ k ih =>
      intro c rs bs w h1 h2 h3 h4 h5 h6 h7 h8
      have hkk : f0 + (k + 1) = (f0 + k) + 1 := by omega
      rw [hkk]
      have hck := hchk
      unfold chk at hck
      rw [List.all_eq_true] at hck
      have hck := hck c (List.mem_range.2 (by omega))
      rw [List.all_eq_true] at hck
      have hck := hck (bs.map (·.isSome)) (by have := mem_masks (bs.map (·.isSome)); simpa [h3] using this)
      -- an allocation comes up
      have alloc : ∀ i, pend (al.map (·.i)) (bs.map (·.isSome)) i = true → wpOp P ops Q i (fun a' w' => S w' ∧ wpAnyH P md ops Q S (f0 + k) ((mkm (mkd L0 (cs.take c)) (al.map (·.i)) (bs.map (·.isSome))).setIfInBounds i true) a' w') (pup (pud a0 (ds.take c) rs) (al.map (·.d)) bs) w := by
        intro i hi
        obtain ⟨j, hj1, hj2⟩ := pend_at hi
        rw [List.getElem?_map] at hj1 hj2
        obtain ⟨x, hx, rfl⟩ := Option.map_eq_some_iff.1 hj1
        obtain ⟨b, hb, hb2⟩ := Option.map_eq_some_iff.1 hj2
        have hbn : b = none := by cases b with | none => rfl | some _ => cases hb2
        subst hbn
        obtain ⟨o, ho, hd, hall⟩ := hal x (List.mem_of_getElem? hx)
        obtain ⟨hw, hrun⟩ := hall (pup (pud a0 (ds.take c) rs) (al.map (·.d)) bs) w
        unfold wpOp
        simp only [ho, hw, if_true]
        refine .inl ?_
        unfold Oper.wp
        rw [hrun]
        simp only [Oper.upon, hd]
        have hba : Below w.heap.size w (w.alloc x.o) := (Below.refl _ _).alloc (Nat.le_refl _) _
        have hup : ∀ (i : Nat) (o : Obj), w.heap[i]? = some o → (w.alloc x.o).heap[i]? = some o := fun i o h => (hba.block i (Array.getElem?_eq_some_iff.1 h).1).trans h
        refine ⟨hS _ _ h5 hba, ?_⟩
        rw [pup_on _ _ _ j x.d w.heap.size hnd (by rw [List.getElem?_map, hx]; rfl) hb, mkm_on _ _ _ j x.i (by rw [List.getElem?_map, hx]; rfl) (by rw [List.getElem?_map, hb]; rfl), ← isSome_set bs j w.heap.size]
        refine ih c rs _ _ h1 h2 (by rw [List.length_set]; exact h3) ?_ (hS _ _ h5 hba) (fun j r hr => hF _ _ _ _ (h6 j r hr) hba) (h7.on h3 hx hb hup (heap_alloc_new _ _) h8.size fun k hk => Nat.ne_of_lt (h7.lt h3 hk)) (h8.trans (hba.mono h8.size))
        have := unmade_set (b := w.heap.size) hb
        omega
      cases hcs : cs[c]? with
      | some i =>
        have hcl : c < cs.length := (List.getElem?_eq_some_iff.1 hcs).1
        have hdl : c < ds.length := by omega
        obtain ⟨d, hds⟩ : ∃ d, ds[c]? = some d := ⟨_, List.getElem?_eq_getElem hdl⟩
        have hdm : d ∉ al.map (·.d) := hdis d (List.mem_of_getElem? hds)
        have tk : cs.take (c + 1) = cs.take c ++ [i] := by rw [List.take_add_one, hcs]; rfl
        have tkd : ds.take (c + 1) = ds.take c ++ [d] := by rw [List.take_add_one, hds]; rfl
        have hlen : (ds.take c).length = rs.length := by rw [List.length_take]; omega
        have hst := hstep c i d rs bs w h1 h3 hcs hds h5 h6 h8.size
        simp only [hcs] at hck
        have next : ∀ v w', F c v w' → Below w.heap.size w w' → wpAnyH P md ops Q S (f0 + k) ((mkm (mkd L0 (cs.take c)) (al.map (·.i)) (bs.map (·.isSome))).setIfInBounds i true) ((pup (pud a0 (ds.take c) rs) (al.map (·.d)) bs).put (some d) v) w' := by
          intro v w' hv hb
          have hup : ∀ (i : Nat) (o : Obj), w.heap[i]? = some o → w'.heap[i]? = some o := fun i o h => (hb.block i (Array.getElem?_eq_some_iff.1 h).1).trans h
          rw [pup_put _ _ _ _ _ hdm, ← pud_snoc _ _ _ _ _ hlen, mkm_set, ← mkd_snoc, ← tk, ← tkd]
          refine ih (c + 1) (rs ++ [v]) bs w' (by simp [h1]) (by omega) h3 (by omega) (hS _ _ h5 hb) ?_ (h7.up hup) (h8.trans (hb.mono h8.size))
          intro j r hr
          by_cases hj : j < rs.length
          · rw [List.getElem?_append_left hj] at hr
            exact hF _ _ _ _ (h6 j r hr) hb
          · rw [List.getElem?_append_right (by omega)] at hr
            have : j - rs.length = 0 := by
              rcases Nat.eq_zero_or_pos (j - rs.length) with h | h
              · exact h
              · rw [List.getElem?_eq_none (by simp; omega)] at hr; cases hr
            rw [this] at hr
            simp only [List.getElem?_cons_zero, Option.some.injEq] at hr
            subst hr
            have : j = c := by omega
            subst this
            exact hv
        cases hp : pure.getD c false with
        | true =>
          rw [hp] at hck hst
          simp only [if_true, Bool.and_eq_true] at hck
          unfold ChStep at hst
          rw [if_pos rfl] at hst
          obtain ⟨o, ho, hd, v, hy, hv⟩ := hst
          refine wpAnyH_take ho hsel hck.2 hck.1 (fun c a w h => by rw [hd] at h; exact hQ c a _ v w h) hy h5 ?_
          rw [hd]
          exact next v w hv (Below.refl _ _)
        | false =>
          rw [hp] at hck hst
          simp only [Bool.false_eq_true, if_false, Bool.and_eq_true, Bool.not_eq_true', List.all_eq_true, Bool.or_eq_true, beq_iff_eq] at hck
          unfold ChStep at hst
          rw [if_neg (by simp)] at hst
          refine wpAnyH_all rfl (fun e => by have h9 := hck.1; rw [e] at h9; simp at h9) fun j hj => ?_
          rcases hck.2 j hj with rfl | hpj
          · exact hst _ fun v w' hv hb => ⟨hS _ _ h5 hb, next v w' hv hb⟩
          · exact alloc j hpj
      | none =>
        simp only [hcs, Bool.or_eq_true, Bool.and_eq_true, Bool.not_eq_true', List.all_eq_true] at hck
        have hcl : cs.length ≤ c := by
          rcases Nat.lt_or_ge c cs.length with h | h
          · rw [List.getElem?_eq_getElem h] at hcs; cases hcs
          · exact h
        rcases hck with hck | hck
        · exfalso
          have : unmade bs = 0 := by
            unfold unmade
            rw [List.length_eq_zero_iff, List.filter_eq_nil_iff]
            intro b hb
            have := hck b.isSome (List.mem_map.2 ⟨b, hb, rfl⟩)
            cases b <;> simp at this ⊢
          omega
        · refine wpAnyH_all rfl (fun e => by have h9 := hck.1; rw [e] at h9; simp at h9) fun j hj => ?_
          exact alloc j (hck.2 j hj)
  have e0 : mkm L0 (al.map (·.i)) ((al.map fun _ => (none : Option Nat)).map (·.isSome)) = L0 := by
    have : ∀ (l : List Al) (L : Array Bool), mkm L (l.map (·.i)) ((l.map fun _ => (none : Option Nat)).map (·.isSome)) = L := fun l => by
      induction l with
      | nil => intro L; rfl
      | cons x r ih => intro L; simp only [List.map_cons, mkm, Option.isSome_none, Bool.false_eq_true, if_false]; exact ih L
    exact this al L0
  have e1 : pup a0 (al.map (·.d)) (al.map fun _ => (none : Option Nat)) = a0 := by
    have : ∀ (l : List Al) (a : Act), pup a (l.map (·.d)) (l.map fun _ => (none : Option Nat)) = a := fun l => by
      induction l with
      | nil => intro a; rfl
      | cons x r ih => intro a; simp only [List.map_cons, pup]; exact ih a
    exact this al a0
  have e2 : AlOk w0.heap.size w0 al (al.map fun _ => (none : Option Nat)) := by
    have : ∀ l : List Al, AlOk w0.heap.size w0 l (l.map fun _ => (none : Option Nat)) := fun l => by
      induction l with
      | nil => trivial
      | cons x r ih => exact And.intro (fun k hk => (by cases hk)) ih
    exact this al
  have e3 : unmade (al.map fun _ => (none : Option Nat)) = al.length := by
    have : ∀ l : List Al, unmade (l.map fun _ => (none : Option Nat)) = l.length := fun l => by
      induction l with
      | nil => rfl
      | cons x r ih => unfold unmade at ih ⊢; simp only [List.map_cons, List.filter_cons, Option.isNone_none, if_true, List.length_cons, ih]
    exact this al
  have := main (cs.length + al.length) 0 [] (al.map fun _ => none) w0 rfl (Nat.zero_le _) (by simp) (by rw [e3]; omega) hS0 (fun j r h => by simp at h) e2 (Below.refl _ _)
  simp only [List.take_zero, mkd, pud] at this
  rw [e0, e1, ← hn] at this
  exact this
end

end Go.Proofs.Ytiafmhdicgmfaaa
