/-
  Graphs: the example; awake.
-/
import Derived.Test.YtiafmhdicgmfaaaGRemP
import Derived.Test.YtiafmhdicgmfaaaGCompP
namespace Go.Proofs.Ytiafmhdicgmfaaa
open Go.RowKit

theorem gat_alloc (W : World) (o : Obj) (b : Nat) : (W.alloc o).heap[b]? = if b = W.heap.size then some o else W.heap[b]? := by
  show (W.heap.push o)[b]? = _
  rw [Array.getElem?_push]
theorem gsize_alloc (W : World) (o : Obj) : (W.alloc o).heap.size = W.heap.size + 1 := by simp
/-- a block that is known whole reads as a slice -/
theorem reads_lit {α : Type} {E : El α} {t : TypeId} {w : World} {g B : Nat} {cs : Array Value} {xs : List α} (h : w.heap[g]? = some (.cells cs t (0, 0))) (hc : cs.toList = cellsE E xs) (hB : g < B) : Reads E w B (some ⟨g, 0, none⟩) xs :=
  .inr ⟨g, 0, rfl, hB, fun i x hx j u hu => by
    have := cellsE_get E hx hu
    rw [← hc, Array.getElem?_toList] at this
    rw [Nat.zero_add, cell_of_row _ _ _ _ _ _ h]
    exact this⟩
theorem gr_lit {u : World} {a b : Nat} {ca cb : Array Value} {xs : List Int} {ys : List Ed} {n m : Nat} (hn : n = xs.length) (hm : m = ys.length) (h1 : u.heap[a]? = some (.cells ca 3 (0, 0))) (h2 : u.heap[b]? = some (.cells cb 36 (0, 0))) (e1 : ca.toList = cellsE EInt xs) (e2 : cb.toList = cellsE EEd ys) (l1 : xs.length ≤ 100) (l2 : ys.length ≤ 100) :
    GrAt u (some ⟨a, 0, none⟩) n (some ⟨b, 0, none⟩) m ⟨xs, ys⟩ :=
  ⟨reads_lit h1 e1 (heap_lt h1), reads_lit h2 e2 (heap_lt h2), ⟨by subst hn; exact Nat.le_refl _, by subst hn; unfold maxLen; omega⟩, ⟨by subst hm; exact Nat.le_refl _, by subst hm; unfold maxLen; omega⟩⟩
def exG : Gr := ⟨[3, 1, 1], [⟨0, 0, 1⟩, ⟨0, 0, 2⟩]⟩
def exR : Gr := ⟨[3, 1], [⟨0, 0, 1⟩]⟩
def exM : Mo := ⟨[0, -1, 1], [-1, 0]⟩
theorem ex_e1 : remE exG [1] [0] = 0 := by decide +kernel
theorem ex_g1 : remG exG [1] [0] = exR := by decide +kernel
theorem ex_m1 : remM exG [1] [0] = exM := by decide +kernel
theorem ex_e2 : remE exG [1] [] = 14 := by decide +kernel
theorem ex_g2 : remG exG [1] [] = noG := by decide +kernel
theorem ex_m2 : remM exG [1] [] = noM := by decide +kernel
theorem ex_v : validE exG = 0 := by decide +kernel
theorem ex_c : (compR exG).length = 1 := by decide +kernel

set_option maxRecDepth 100000 in
set_option maxHeartbeats 2000000 in
theorem example_any (w : World) : Calls Try.prog 38 #[] w fun e w' => (∃ a b, e = .returned (gval (some ⟨a, 0, none⟩) 3 3 (some ⟨b, 0, none⟩) 2 2) ∧ GrAt w' (some ⟨a, 0, none⟩) 3 (some ⟨b, 0, none⟩) 2 exG) ∧ Below w.heap.size w w' := by
  go_enter Try.func38, Try.ntmps38
  go_wp2_with fail
  refine bodyPost_ret (v := gval (some ⟨w.heap.size + 1, 0, none⟩) 3 3 (some ⟨w.heap.size + 1 + 1, 0, none⟩) 2 2) (by simp [results, Try.results38, go_sem]) rfl ?_
  have hsz : ∀ (o0 o1 o2 : Obj), (((w.alloc o0).alloc o1).alloc o2).heap.size = w.heap.size + 3 := fun _ _ _ => by simp
  have at1 : ∀ (o0 o1 o2 : Obj), (((w.alloc o0).alloc o1).alloc o2).heap[w.heap.size + 1]? = some o1 := fun _ _ _ => by
    simp only [gat_alloc, gsize_alloc]; repeat (first | rfl | (split; · (first | rfl | omega)))
  have at2 : ∀ (o0 o1 o2 : Obj), (((w.alloc o0).alloc o1).alloc o2).heap[w.heap.size + 1 + 1]? = some o2 := fun _ _ _ => by
    simp only [gat_alloc, gsize_alloc]; repeat (first | rfl | (split; · (first | rfl | omega)))
  exact ⟨⟨_, _, rfl, gr_lit rfl rfl (at1 _ _ _) (at2 _ _ _) rfl rfl (by decide) (by decide)⟩, ((((Below.refl _ _).alloc (Nat.le_refl _) _).alloc (by simp) _).alloc (by simp; omega) _)⟩

theorem ints_a {w : World} {x : Int} {o : Obj} : Ints ((w.alloc (.cells #[.int .i64 x] 3 (0, 0))).alloc o) ((w.alloc (.cells #[.int .i64 x] 3 (0, 0))).alloc o).heap.size (some ⟨w.heap.size, 0, none⟩) [x] := reads_lit (heap_two _ _ _) rfl (by simp; omega)
theorem ints_b {w : World} {x : Int} {o : Obj} : Ints ((w.alloc o).alloc (.cells #[.int .i64 x] 3 (0, 0))) ((w.alloc o).alloc (.cells #[.int .i64 x] 3 (0, 0))).heap.size (some ⟨w.heap.size + 1, 0, none⟩) [x] := reads_lit (heap_two' _ _ _) rfl (by simp)
theorem ints_c {w : World} {cs : Array Value} {xs : List Int} (e : cs.toList = cellsE EInt xs) : Ints (w.alloc (.cells cs 3 (0, 0))) (w.alloc (.cells cs 3 (0, 0))).heap.size (some ⟨w.heap.size, 0, none⟩) xs := reads_lit (heap_alloc_new _ _) e (by simp)
theorem below_aa (w : World) (o o2 : Obj) : Below w.heap.size w ((w.alloc o).alloc o2) := ((Below.refl _ _).alloc (Nat.le_refl _) _).alloc (by simp) _
def AwS (w : World) (h : Nat) (An Ae Bn Be : Option Addr) (cn ce dn de : Nat) (W : World) : Prop := BoxIs h (.slice An exR.ns.length cn) (.slice Ae exR.es.length ce) 25 W ∧ BoxIs (h + 1) (.slice Bn exM.ns.length dn) (.slice Be exM.es.length de) 40 W ∧ GrAt W An cn Ae ce exR ∧ MoAt W Bn dn Be de exM ∧ Below w.heap.size w W
theorem AwS.up {w W W' : World} {h : Nat} {An Ae Bn Be : Option Addr} {cn ce dn de : Nat} (k : AwS w h An Ae Bn Be cn ce dn de W) (hb : Below W.heap.size W W') : AwS w h An Ae Bn Be cn ce dn de W' :=
  ⟨k.1.up hb, k.2.1.up hb, k.2.2.1.up hb, k.2.2.2.1.up hb, k.2.2.2.2.trans (hb.mono k.2.2.2.2.size)⟩

set_option maxRecDepth 100000 in
set_option maxHeartbeats 4000000 in
theorem awake_any (w : World) : Calls Try.prog 10 #[] w fun e w' => e = .returned (.bool true) ∧ Below w.heap.size w w' := by
  have hr1 := fun An cn Ae ce Av Ax cv cx w => remP exG [1] [0] An cn Ae ce Av Ax cv cx w (by decide) (by decide)
  have hr2 := fun An cn Ae ce Av Ax cv cx w => remP exG [1] [] An cn Ae ce Av Ax cv cx w (by decide) (by decide)
  have hc := fun An cn Ae ce w => compP exG An cn Ae ce w
  simp only [ex_e1, ex_g1, ex_m1, ex_e2, ex_g2, ex_m2, ex_v] at hr1 hr2 hc
  have HR1 := Lib.hid hr1
  have HR2 := Lib.hid hr2
  have HC := Lib.hid hc
  clear hr1 hr2 hc
  go_enter Try.func10, Try.ntmps10
  go_wp2_with fail
  refine (example_any _).mono ?_
  rintro e w1 ⟨⟨a1, b1, rfl, hT⟩, hb1⟩
  have HT := Lib.hid hT
  have HB1 := Lib.hid hb1
  clear hT hb1
  go_wp2_with fail
  refine (HR1.out _ _ _ _ _ _ _ _ _ (HT.out.up (below_aa _ _ _)) ints_a ints_b).mono ?_
  rintro e w2 ⟨⟨v, u, rfl, ⟨An, cn, Ae, ce, rfl, hG⟩, ⟨Bn, dn, Be, de, rfl, hM⟩⟩, hb2⟩
  have HB2 := Lib.hid (HB1.out.trans (((below_aa _ _ _).trans (hb2.mono (by simp; omega))).mono HB1.out.size))
  have HG := Lib.hid hG
  have HM := Lib.hid hM
  clear hG hM hb2 HB1 HT
  go_wp2_with fail
  have hs : AwS w w2.heap.size An Ae Bn Be cn ce dn de ((w2.alloc (.cells #[.slice An exR.ns.length cn, .slice Ae exR.es.length ce] 25 (0, 0))).alloc (.cells #[.slice Bn exM.ns.length dn, .slice Be exM.es.length de] 40 (0, 0))) :=
    ⟨heap_two _ _ _, heap_two' _ _ _, HG.out.up (below_aa _ _ _), HM.out.up (below_aa _ _ _), HB2.out.trans ((below_aa _ _ _).mono HB2.out.size)⟩
  have HS := Lib.hid hs
  clear hs HG HM HB2
  refine (example_any _).mono ?_
  rintro e w3 ⟨⟨a2, b2, rfl, hT⟩, hb3⟩
  have HT := Lib.hid hT
  have HS3 := Lib.hid (HS.out.up hb3)
  clear hT hb3 HS HR1
  go_wp2_with fail
  refine (HR2.out _ _ _ _ _ none _ 0 _ (HT.out.up (below_a _ _)) (ints_c rfl) (.inl rfl)).mono ?_
  rintro e w4 ⟨⟨v, u, rfl, ⟨Cn, fn, Ce, fe, rfl, _⟩, ⟨Dn, en, De, ee, rfl, _⟩⟩, hb4⟩
  have HS4 := Lib.hid (HS3.out.up ((below_a _ _).trans (hb4.mono (by simp))))
  clear hb4 HT HS3 HR2
  go_wp2_with fail
  refine (example_any _).mono ?_
  rintro e w5 ⟨⟨a3, b3, rfl, hT⟩, hb5⟩
  have HT := Lib.hid hT
  have HS5 := Lib.hid (HS4.out.up ((below_aa _ _ _).trans (hb5.mono (by simp; omega))))
  clear hT hb5 HS4
  go_wp2_with fail
  refine (HC.out _ _ _ _ _ HT.out).mono ?_
  rintro e w6 ⟨⟨v, rfl, ⟨Pa, pc, rfl, _⟩⟩, hb6⟩
  have HS6 := Lib.hid (HS5.out.up hb6)
  clear hb6 HT HS5 HC
  rw [ex_c]
  obtain ⟨⟨c0, c1⟩, ⟨c2, c3⟩⟩ := And.intro HS6.out.1.cells HS6.out.2.1.cells
  have z0 := heap_lt HS6.out.1
  have z1 := heap_lt HS6.out.2.1
  go_wp2_with fail
  have HS6' := Lib.hid (HS6.out.up (below_aa w6 (.cells #[.int .i64 3, .int .i64 1] 3 (0, 0)) (.cells #[.int .i64 0, .int .i64 0, .int .i64 1] 36 (0, 0))))
  have hg := gr_lit (xs := [3, 1]) (ys := [⟨0, 0, 1⟩]) rfl rfl (heap_two w6 (.cells #[.int .i64 3, .int .i64 1] 3 (0, 0)) (.cells #[.int .i64 0, .int .i64 0, .int .i64 1] 36 (0, 0))) (heap_two' w6 (.cells #[.int .i64 3, .int .i64 1] 3 (0, 0)) (.cells #[.int .i64 0, .int .i64 0, .int .i64 1] 36 (0, 0))) rfl rfl (by decide) (by decide)
  refine (sameR_any exR exR _ _ _ _ _ _ _ _ _ HS6'.out.2.2.1 hg).mono ?_
  rintro e w7 ⟨rfl, hb7⟩
  have HS7 := Lib.hid (HS6'.out.up hb7)
  clear hb7 hg HS6 HS6' c0 c1 c2 c3
  rw [decide_eq_true (p := exR = exR) rfl]
  obtain ⟨c2, c3⟩ := HS7.out.2.1.cells
  have z2 := heap_lt HS7.out.2.1
  go_wp2_with fail
  refine (equal_any [0, -1, 1] [0, -1, 1] _ _ _ _ _ _ _ (by decide) (HS7.out.up (below_a _ _)).2.2.2.1.ns (ints_c rfl)).mono ?_
  rintro e w8 ⟨rfl, hb8⟩
  have HS8 := Lib.hid (HS7.out.up ((below_a _ _).trans (hb8.mono (by simp))))
  clear hb8 HS7 c2 c3
  rw [decide_eq_true (p := ([0, -1, 1] : List Int) = [0, -1, 1]) rfl]
  obtain ⟨c2, c3⟩ := HS8.out.2.1.cells
  have z3 := heap_lt HS8.out.2.1
  go_wp2_with fail
  refine (equal_any [-1, 0] [-1, 0] _ _ _ _ _ _ _ (by decide) (HS8.out.up (below_a _ _)).2.2.2.1.es (ints_c rfl)).mono ?_
  rintro e w9 ⟨rfl, hb9⟩
  have HBF := Lib.hid (HS8.out.up ((below_a _ _).trans (hb9.mono (by simp)))).2.2.2.2
  clear hb9 HS8 c2 c3
  rw [decide_eq_true (p := ([-1, 0] : List Int) = [-1, 0]) rfl]
  go_wp2_with fail
  go_ret
  exact ⟨rfl, HBF.out⟩

end Go.Proofs.Ytiafmhdicgmfaaa
