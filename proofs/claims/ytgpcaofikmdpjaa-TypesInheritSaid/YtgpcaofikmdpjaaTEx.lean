/-
  Types: the example; awake.
-/
import Derived.Test.YtgpcaofikmdpjaaTPc
import Derived.Test.YtgpcaofikmdpjaaEqI
namespace Go.Proofs.Ytgpcaofikmdpjaa
open Go.RowKit

theorem tat_alloc (W : World) (o : Obj) (b : Nat) : (W.alloc o).heap[b]? = if b = W.heap.size then some o else W.heap[b]? := by
  show (W.heap.push o)[b]? = _
  rw [Array.getElem?_push]
theorem tsize_alloc (W : World) (o : Obj) : (W.alloc o).heap.size = W.heap.size + 1 := by simp
/-- a block that is known whole reads as a slice -/
theorem reads_lit {α : Type} {E : El α} {t : TypeId} {w : World} {g B : Nat} {cs : Array Value} {xs : List α} (h : w.heap[g]? = some (.cells cs t (0, 0))) (hc : cs.toList = cellsE E xs) (hB : g < B) : Reads E w B (some ⟨g, 0, none⟩) xs :=
  .inr ⟨g, 0, rfl, hB, fun i x hx j u hu => by
    have := cellsE_get E hx hu
    rw [← hc, Array.getElem?_toList] at this
    rw [Nat.zero_add, cell_of_row _ _ _ _ _ _ h]
    exact this⟩
structure RNod where
  nm : ByteArray
  par : Int
  ab : Bool
  A : Option Addr
  n : Nat
  c : Nat
def ENodR : El RNod := ⟨fun x => [.string x.nm, .int .i64 x.par, .bool x.ab, .slice x.A x.n x.c], 4, fun _ => rfl, fun x u hu => by simp at hu; rcases hu with rfl | rfl | rfl | rfl <;> rfl⟩
def NodRel (w : World) (B : Nat) (ys : List RNod) (xs : List Nod) : Prop := ys.length = xs.length ∧ ∀ (i : Nat) (y : RNod) (x : Nod), ys[i]? = some y → xs[i]? = some x → DNod.rel w B x (ENodR.enc y)
theorem NodRel.nil (w : World) (B : Nat) : NodRel w B [] [] := ⟨rfl, fun i y x h => by simp at h⟩
theorem NodRel.cons {w : World} {B : Nat} {ys : List RNod} {xs : List Nod} {y : RNod} {x : Nod} (h : NodRel w B ys xs) (hy : DNod.rel w B x (ENodR.enc y)) : NodRel w B (y :: ys) (x :: xs) :=
  ⟨by simp [h.1], fun i y' x' h1 h2 => by
    cases i with
    | zero => simp at h1 h2; subst h1 h2; exact hy
    | succ i => simp at h1 h2; exact h.2 i y' x' h1 h2⟩
theorem Reads.nods {w : World} {B : Nat} {A : Option Addr} {ys : List RNod} {xs : List Nod} (h : Reads ENodR w B A ys) (hr : NodRel w B ys xs) : Nods w B A xs :=
  Reads.lift h rfl hr.1.symm fun i x y h1 h2 => hr.2 i y x h2 h1
theorem RawRel.one {w : World} {B : Nat} {y : RAtt} {x : Att} (h : DAtt.rel w B x (ERaw.enc y)) : RawRel w B [y] [x] :=
  ⟨rfl, fun i y' x' h1 h2 => by
    cases i with
    | zero => simp at h1 h2; subst h1 h2; exact h
    | succ i => simp at h1⟩

def nAccount : ByteArray := ⟨#[65, 99, 99, 111, 117, 110, 116]⟩
def nCash : ByteArray := ⟨#[67, 97, 115, 104]⟩
def nLoan : ByteArray := ⟨#[76, 111, 97, 110]⟩
def nPerson : ByteArray := ⟨#[80, 101, 114, 115, 111, 110]⟩
def nBalance : ByteArray := ⟨#[98, 97, 108, 97, 110, 99, 101]⟩
def nState : ByteArray := ⟨#[115, 116, 97, 116, 101]⟩
def nOpen : ByteArray := ⟨#[111, 112, 101, 110]⟩
def nClosed : ByteArray := ⟨#[99, 108, 111, 115, 101, 100]⟩
def nOwns : ByteArray := ⟨#[111, 119, 110, 115]⟩
def nPays : ByteArray := ⟨#[112, 97, 121, 115]⟩
/-- the example -/
def exT : Typ := ⟨[⟨nAccount, -1, true, [⟨nBalance, -1000, 1000, []⟩]⟩, ⟨nCash, 0, false, []⟩, ⟨nLoan, 0, false, [⟨nState, 0, 1, [nOpen, nClosed]⟩]⟩, ⟨nPerson, -1, false, []⟩],
  [⟨nOwns, 3, 0, 0, -1, 1, 1⟩, ⟨nPays, 1, 1, 0, -1, 0, -1⟩]⟩
theorem ex_few : FewT exT := ⟨by decide, by decide, by
  intro x hx
  simp only [exT, List.mem_cons, List.not_mem_nil, or_false] at hx
  rcases hx with rfl | rfl | rfl | rfl
  · exact ⟨by decide, by decide, fun a ha => by simp at ha; subst ha; exact ⟨by decide, by decide, fun s hs => by simp at hs⟩⟩
  · exact ⟨by decide, by decide, fun a ha => by simp at ha⟩
  · exact ⟨by decide, by decide, fun a ha => by simp at ha; subst ha; exact ⟨by decide, by decide, fun s hs => by simp at hs; rcases hs with rfl | rfl <;> decide⟩⟩
  · exact ⟨by decide, by decide, fun a ha => by simp at ha⟩, by
  intro x hx
  simp only [exT, List.mem_cons, List.not_mem_nil, or_false] at hx
  rcases hx with rfl | rfl <;> decide⟩

theorem ex_tyc {u : World} {n : Nat} (hs : u.heap.size = n + 6) (a1 : u.heap[n + 1]? = some (.cells #[.string nBalance, .int .i64 (-1000), .int .i64 1000, .slice none 0 0] 58 (0, 0))) (a2 : u.heap[n + 1 + 1]? = some (.cells #[.string nOpen, .string nClosed] 9 (0, 0)))
    (a3 : u.heap[n + 1 + 1 + 1]? = some (.cells #[.string nState, .int .i64 0, .int .i64 1, .slice (some ⟨n + 1 + 1, 0, none⟩) 2 2] 58 (0, 0)))
    (a4 : u.heap[n + 1 + 1 + 1 + 1]? = some (.cells #[.string nAccount, .int .i64 (-1), .bool true, .slice (some ⟨n + 1, 0, none⟩) 1 1, .string nCash, .int .i64 0, .bool false, .slice none 0 0, .string nLoan, .int .i64 0, .bool false, .slice (some ⟨n + 1 + 1 + 1, 0, none⟩) 1 1, .string nPerson, .int .i64 (-1), .bool false, .slice none 0 0] 55 (0, 0)))
    (a5 : u.heap[n + 1 + 1 + 1 + 1 + 1]? = some (.cells #[.string nOwns, .int .i64 3, .int .i64 0, .int .i64 0, .int .i64 (-1), .int .i64 1, .int .i64 1, .string nPays, .int .i64 1, .int .i64 1, .int .i64 0, .int .i64 (-1), .int .i64 0, .int .i64 (-1)] 60 (0, 0))) :
    TyC u (some ⟨n + 1 + 1 + 1 + 1, 0, none⟩) (some ⟨n + 1 + 1 + 1 + 1 + 1, 0, none⟩) exT := by
  have hS : Strs u u.heap.size (some ⟨n + 1 + 1, 0, none⟩) [nOpen, nClosed] := reads_lit (E := EStr) a2 rfl (by omega)
  have hB : Atts u u.heap.size (some ⟨n + 1, 0, none⟩) [⟨nBalance, -1000, 1000, []⟩] := Reads.atts (ys := [⟨nBalance, -1000, 1000, none, 0, 0⟩]) (reads_lit (E := ERaw) a1 rfl (by omega)) (RawRel.one ⟨none, 0, rfl, .inl rfl, Nat.le_refl _⟩) (Nat.le_refl _)
  have hT : Atts u u.heap.size (some ⟨n + 1 + 1 + 1, 0, none⟩) [⟨nState, 0, 1, [nOpen, nClosed]⟩] := Reads.atts (ys := [⟨nState, 0, 1, some ⟨n + 1 + 1, 0, none⟩, 2, 2⟩]) (reads_lit (E := ERaw) a3 rfl (by omega)) (RawRel.one ⟨some ⟨n + 1 + 1, 0, none⟩, 2, rfl, hS, Nat.le_refl _⟩) (Nat.le_refl _)
  refine ⟨Reads.nods (ys := [⟨nAccount, -1, true, some ⟨n + 1, 0, none⟩, 1, 1⟩, ⟨nCash, 0, false, none, 0, 0⟩, ⟨nLoan, 0, false, some ⟨n + 1 + 1 + 1, 0, none⟩, 1, 1⟩, ⟨nPerson, -1, false, none, 0, 0⟩]) (reads_lit a4 rfl (by omega)) ?_, reads_lit (E := EEdg) a5 rfl (by omega)⟩
  refine NodRel.cons (NodRel.cons (NodRel.cons (NodRel.cons (NodRel.nil _ _) ?_) ?_) ?_) ?_
  · exact ⟨none, 0, rfl, .inl rfl⟩
  · exact ⟨some ⟨n + 1 + 1 + 1, 0, none⟩, 1, rfl, hT⟩
  · exact ⟨none, 0, rfl, .inl rfl⟩
  · exact ⟨some ⟨n + 1, 0, none⟩, 1, rfl, hB⟩

theorem ex_bel : belR exT 0 = [0, 1, 2] := by decide +kernel
theorem ex_giv : givenE exT 0 0 = 0 := by decide +kernel
theorem ex_meet1 : meetS exT 1 0 = (1, 0) := by decide +kernel
theorem ex_meet2 : meetS exT 1 2 = (0, 13) := by decide +kernel
theorem ex_join1 : joinS exT 1 2 = (0, 0) := by decide +kernel
theorem ex_join2 : joinS exT 1 3 = (0, 10) := by decide +kernel

set_option maxRecDepth 100000 in
set_option maxHeartbeats 2000000 in
theorem example_any (w : World) : Calls Try.prog 32 #[] w fun e w' => (∃ b1 b2, e = .returned (tyval (some ⟨b1, 0, none⟩) 4 4 (some ⟨b2, 0, none⟩) 2 2) ∧ TyC w' (some ⟨b1, 0, none⟩) (some ⟨b2, 0, none⟩) exT) ∧ Below w.heap.size w w' := by
  go_enter Try.func32, Try.ntmps32
  go_wp2_with fail
  refine bodyPost_ret (v := tyval (some ⟨w.heap.size + 1 + 1 + 1 + 1, 0, none⟩) 4 4 (some ⟨w.heap.size + 1 + 1 + 1 + 1 + 1, 0, none⟩) 2 2) (by simp [results, Try.results32, go_sem]) rfl ?_
  refine ⟨⟨_, _, rfl, ?_⟩, ?_⟩
  · have hsz : ∀ (o0 o1 o2 o3 o4 o5 : Obj), ((((((w.alloc o0).alloc o1).alloc o2).alloc o3).alloc o4).alloc o5).heap.size = w.heap.size + 6 := fun _ _ _ _ _ _ => by simp
    have at1 : ∀ (o0 o1 o2 o3 o4 o5 : Obj), ((((((w.alloc o0).alloc o1).alloc o2).alloc o3).alloc o4).alloc o5).heap[w.heap.size + 1]? = some o1 := fun _ _ _ _ _ _ => by
      simp only [tat_alloc, tsize_alloc]; repeat (first | rfl | (split; · (first | rfl | omega)))
    have at2 : ∀ (o0 o1 o2 o3 o4 o5 : Obj), ((((((w.alloc o0).alloc o1).alloc o2).alloc o3).alloc o4).alloc o5).heap[w.heap.size + 1 + 1]? = some o2 := fun _ _ _ _ _ _ => by
      simp only [tat_alloc, tsize_alloc]; repeat (first | rfl | (split; · (first | rfl | omega)))
    have at3 : ∀ (o0 o1 o2 o3 o4 o5 : Obj), ((((((w.alloc o0).alloc o1).alloc o2).alloc o3).alloc o4).alloc o5).heap[w.heap.size + 1 + 1 + 1]? = some o3 := fun _ _ _ _ _ _ => by
      simp only [tat_alloc, tsize_alloc]; repeat (first | rfl | (split; · (first | rfl | omega)))
    have at4 : ∀ (o0 o1 o2 o3 o4 o5 : Obj), ((((((w.alloc o0).alloc o1).alloc o2).alloc o3).alloc o4).alloc o5).heap[w.heap.size + 1 + 1 + 1 + 1]? = some o4 := fun _ _ _ _ _ _ => by
      simp only [tat_alloc, tsize_alloc]; repeat (first | rfl | (split; · (first | rfl | omega)))
    have at5 : ∀ (o0 o1 o2 o3 o4 o5 : Obj), ((((((w.alloc o0).alloc o1).alloc o2).alloc o3).alloc o4).alloc o5).heap[w.heap.size + 1 + 1 + 1 + 1 + 1]? = some o5 := fun _ _ _ _ _ _ => by
      simp only [tat_alloc, tsize_alloc]; repeat (first | rfl | (split; · (first | rfl | omega)))
    exact ex_tyc (hsz _ _ _ _ _ _) (at1 _ _ _ _ _ _) (at2 _ _ _ _ _ _) (at3 _ _ _ _ _ _) (at4 _ _ _ _ _ _) (at5 _ _ _ _ _ _)
  · exact (((((((Below.refl _ _).alloc (Nat.le_refl _) _).alloc (by simp) _).alloc (by simp; omega) _).alloc (by simp; omega) _).alloc (by simp; omega) _).alloc (by simp; omega) _)

theorem equal3 {L : List Int} (hl : L.length ≤ 1000) {A A' : Option Addr} {c c' : Nat} {w : World} (h1 : Ints w w.heap.size A L) (h2 : Ints w w.heap.size A' L) :
    Calls Try.prog 23 #[.slice A L.length c, .slice A' L.length c'] w fun e w' => e = .returned (.bool true) ∧ Below w.heap.size w w' := by
  refine (equal_any L L A A' _ _ c c' w (by unfold maxLen; omega) h1 h2).mono ?_
  rintro e w' ⟨rfl, hb⟩
  exact ⟨by rw [decide_eq_true rfl], hb⟩

set_option maxRecDepth 100000 in
set_option maxHeartbeats 4000000 in
theorem awake_any (hp : TC) : AwC := by
  intro w
  have hb0 := fun A Ae u hT => hp.bel exT A 4 Ae 2 0 u ex_few ⟨by decide, by decide⟩ (by omega) hT
  have hm1 := fun A Ae u hT => hp.meet exT A 4 Ae 2 1 0 u ex_few ⟨by decide, by decide⟩ (by omega) (by omega) hT
  have hm2 := fun A Ae u hT => hp.meet exT A 4 Ae 2 1 2 u ex_few ⟨by decide, by decide⟩ (by omega) (by omega) hT
  have hj1 := fun A Ae u hT => hp.join exT A 4 Ae 2 1 2 u ex_few ⟨by decide, by decide⟩ (by omega) (by omega) hT
  have hj2 := fun A Ae u hT => hp.join exT A 4 Ae 2 1 3 u ex_few ⟨by decide, by decide⟩ (by omega) (by omega) hT
  simp only [ex_bel, ex_giv, ex_meet1, ex_meet2, ex_join1, ex_join2] at hb0 hm1 hm2 hj1 hj2
  have HB0 := Lib.hid hb0
  have HM1 := Lib.hid hm1
  have HM2 := Lib.hid hm2
  have HJ1 := Lib.hid hj1
  have HJ2 := Lib.hid hj2
  clear hb0 hm1 hm2 hj1 hj2 hp
  go_enter Try.func11, Try.ntmps11
  go_wp2_with fail
  refine (example_any _).mono ?_
  rintro e w1 ⟨⟨b1, b2, rfl, hT⟩, hb1⟩
  have HT := Lib.hid hT
  have HB1 := Lib.hid hb1
  clear hT hb1
  go_wp2_with fail
  refine (HB0.out _ _ _ (HT.out.up ((Below.refl _ _).alloc (Nat.le_refl _) _))).mono ?_
  rintro e w2 ⟨⟨A2, c2, rfl, hr2⟩, hb2⟩
  have hb2' := below_one' hb2
  obtain ⟨d0, d1⟩ := box_cell hb2'
  have HB2 := Lib.hid hb2'
  have hz2 : w1.heap.size + 1 ≤ w2.heap.size := by have := hb2'.size; simpa using this
  have HR2 := Lib.hid hr2
  clear hb2 hb2' hr2
  go_wp2_with fail
  refine (HM1.out _ _ _ (HT.out.up (box_below HB2.out))).mono ?_
  rintro e w3 ⟨rfl, hb3⟩
  have hb3' := HB2.out.trans (hb3.mono hz2)
  clear d0 d1
  obtain ⟨d0, d1⟩ := box_cell hb3'
  have HB3 := Lib.hid hb3'
  have hz3 : w1.heap.size + 1 ≤ w3.heap.size := Nat.le_trans hz2 hb3.size
  have HR3 := Lib.hid (HR2.out.up hb3)
  clear hb3 hb3'
  go_wp2_with fail
  refine (HM2.out _ _ _ (HT.out.up (box_below HB3.out))).mono ?_
  rintro e w4 ⟨rfl, hb4⟩
  have hb4' := HB3.out.trans (hb4.mono hz3)
  clear d0 d1
  obtain ⟨d0, d1⟩ := box_cell hb4'
  have HB4 := Lib.hid hb4'
  have hz4 : w1.heap.size + 1 ≤ w4.heap.size := Nat.le_trans hz3 hb4.size
  have HR4 := Lib.hid (HR3.out.up hb4)
  clear hb4 hb4'
  go_wp2_with fail
  refine (HJ1.out _ _ _ (HT.out.up (box_below HB4.out))).mono ?_
  rintro e w5 ⟨rfl, hb5⟩
  have hb5' := HB4.out.trans (hb5.mono hz4)
  clear d0 d1
  obtain ⟨d0, d1⟩ := box_cell hb5'
  have HB5 := Lib.hid hb5'
  have hz5 : w1.heap.size + 1 ≤ w5.heap.size := Nat.le_trans hz4 hb5.size
  have HR5 := Lib.hid (HR4.out.up hb5)
  clear hb5 hb5'
  go_wp2_with fail
  refine (HJ2.out _ _ _ (HT.out.up (box_below HB5.out))).mono ?_
  rintro e w6 ⟨rfl, hb6⟩
  have hb6' := HB5.out.trans (hb6.mono hz5)
  clear d0 d1
  obtain ⟨d0, d1⟩ := box_cell hb6'
  have HB6 := Lib.hid hb6'
  have hz6 : w1.heap.size + 1 ≤ w6.heap.size := Nat.le_trans hz5 hb6.size
  have HR6 := Lib.hid (HR5.out.up hb6)
  clear hb6 hb6'
  go_wp2_with fail
  refine (equal3 (L := [0, 1, 2]) (by decide) (HR6.out.up ((Below.refl _ _).alloc (Nat.le_refl _) _)) (reads_lit (E := EInt) (heap_alloc_new _ _) rfl (by simp))).mono ?_
  rintro e w7 ⟨rfl, hb7⟩
  have HB7 := Lib.hid (HB1.out.trans ((box_below (HB6.out.trans ((((Below.refl _ _).alloc (Nat.le_refl _) _).trans (hb7.mono (by simp))).mono hz6))).mono HB1.out.size))
  clear hb7
  go_wp2_with fail
  go_ret
  exact ⟨rfl, HB7.out⟩

end Go.Proofs.Ytgpcaofikmdpjaa
