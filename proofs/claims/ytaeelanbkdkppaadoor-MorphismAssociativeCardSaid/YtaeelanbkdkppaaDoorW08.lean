import Derived.Test.YtaeelanbkdkppaaDoorW01
import Derived.Test.YtaeelanbkdkppaaDoorW07
import Derived.Test.YtaeelanbkdkppaaDoorW05
import Derived.Maps.AppendAt
import Derived.Test.YtaeelanbkdkppaaDoorW06
import Derived.Sort.OwnSortedInts
import Derived.Lib.OwnBridge
/-
  The program's morphisms: small functions; the check of two graphs.
-/
namespace Go.Proofs.YtaeelanbkdkppaaDoor
open Go.RowKit

theorem isIndexM_any (x : Int) (n : Nat) (w : World) : Calls Tryd.prog 39 #[.int .i64 x, .int .i64 (n : Int)] w fun e w' => e = .returned (.bool (idxB x n)) ∧ w = w' := by
  have H : Hid (idxB x n = (decide (0 ≤ x) && decide (x < (n : Int)))) := Lib.hid rfl
  by_cases h1 : 0 ≤ x
  · by_cases h2 : x < (n : Int)
    · go_enter Tryd.func39, Tryd.ntmps39
      go_wp2
      go_ret
      exact ⟨ret_bool (by rw [H.out, decide_eq_true h1, decide_eq_true h2]; rfl), rfl⟩
    · have h2' : (n : Int) ≤ x := by omega
      go_enter Tryd.func39, Tryd.ntmps39
      go_wp2
      go_ret
      exact ⟨ret_bool (by rw [H.out, decide_eq_true h1, decide_eq_false (p := x < (n : Int)) (by omega)]; rfl), rfl⟩
  · have h1' : x < 0 := by omega
    go_enter Tryd.func39, Tryd.ntmps39
    go_wp2
    go_ret
    exact ⟨ret_bool (by rw [H.out, decide_eq_false (p := 0 ≤ x) (by omega)]; rfl), rfl⟩

def chkE (a b : Gr) : Nat := if validE a ≠ 0 then validE a else validE b

set_option maxHeartbeats 1000000 in
theorem chkM_any (g h : Gr) (An : Option Addr) (cn : Nat) (Ae : Option Addr) (ce : Nat) (Bn : Option Addr) (dn : Nat) (Be : Option Addr) (de : Nat) (w : World) (hT : GrAt w An cn Ae ce g) (hU : GrAt w Bn dn Be de h) :
    Calls Tryd.prog 38 #[gval An g.ns.length cn Ae g.es.length ce, gval Bn h.ns.length dn Be h.es.length de] w fun e w' => e = .returned (.int .i64 (chkE g h)) ∧ Below w.heap.size w w' := by
  have hb0 : Below w.heap.size w ((w.alloc (.cells #[.slice An g.ns.length cn, .slice Ae g.es.length ce] 25 (0, 0))).alloc (.cells #[.slice Bn h.ns.length dn, .slice Be h.es.length de] 25 (0, 0))) := ((Below.refl _ _).alloc (Nat.le_refl _) _).alloc (by simp) _
  have HB0 := Lib.hid hb0
  have HV := Lib.hid (validP_any g An cn Ae ce _ (hT.up hb0))
  have HW := Lib.hid (fun u (hu : Below w.heap.size w u) => validP_any h Bn dn Be de u (hU.up hu))
  have HX : Hid (chkE g h = if validE g ≠ 0 then validE g else validE h) := Lib.hid rfl
  clear hT hU hb0
  generalize chkE g h = R at HX ⊢
  generalize validE g = v at HV HX
  generalize validE h = v2 at HW HX
  go_enter Tryd.func38, Tryd.ntmps38
  go_wp2_with fail
  refine HV.out.mono ?_
  rintro e w1 ⟨rfl, hb1⟩
  obtain ⟨b0, b1, hsz⟩ := boxes2 hb1
  obtain ⟨c2, c3⟩ := cell2 b1
  clear b0 b1
  have HB := Lib.hid (HB0.out.trans (hb1.mono (by simp; omega)))
  have HS := Lib.hid hsz
  clear hb1 hsz
  by_cases hv : v = 0
  case neg =>
    have HR := Lib.hid (show R = v by rw [HX.out, if_pos hv])
    have t1 : ((v : Int) != 0) = true := by simp; omega
    clear hv
    go_wp2_with fail
    go_ret
    exact ⟨ret_int (by rw [HR.out]), HB.out⟩
  subst hv
  have HX2 := Lib.hid (show R = v2 by rw [HX.out, if_neg (fun h => h rfl)])
  clear HX HV
  go_wp2_with fail
  refine (HW.out _ HB.out).mono ?_
  rintro e w2 ⟨rfl, hb2⟩
  have HB2 := Lib.hid (HB.out.trans (hb2.mono (by have := HS.out; omega)))
  clear hb2 c2 c3
  go_wp2_with fail
  go_ret
  exact ⟨ret_int (by rw [HX2.out]), HB2.out⟩

set_option maxHeartbeats 1000000 in
theorem numbersM_any (n : Nat) (w : World) (hn : n ≤ 1000) :
    Calls Tryd.prog 46 #[.int .i64 (n : Int)] w fun e w' => ∃ v, e = .returned v ∧ OwnI w' w.heap.size v (numS (0 : Nat) n) ∧ Below w.heap.size w w' := by
  have HP := Lib.hid (fun k (h : k < n) => pad_set (fun i => ((0 : Nat) : Int) + (i : Int)) 0 h)
  have HPL := Lib.hid (fun k (h : k ≤ n) => pad_len (fun i => ((0 : Nat) : Int) + (i : Int)) 0 h)
  have HZ := Lib.hid (pad_zero (fun i => ((0 : Nat) : Int) + (i : Int)) 0 n)
  have HE := Lib.hid (pad_all (fun i => ((0 : Nat) : Int) + (i : Int)) 0 n)
  have HN : Hid (numS (0 : Nat) n = coll (fun i => [((0 : Nat) : Int) + (i : Int)]) n) := Lib.hid rfl
  have HI : Hid (∀ k : Nat, ((0 : Nat) : Int) + (k : Int) = (k : Int)) := Lib.hid fun k => by omega
  generalize numS (0 : Nat) n = R at HN ⊢
  generalize pad (fun i => ((0 : Nat) : Int) + (i : Int)) 0 n = P at HP HPL HZ HE
  go_enter Tryd.func46, Tryd.ntmps46
  go_wp2_with (at_make; refine wpList_make_Z rfl _ _ rfl w.heap.size n rfl rfl (by omega) (Nat.le_refl _) ?_; intro w1 hown hb hsz)
  have HO := Lib.hid hown
  have HB := Lib.hid hb
  clear hown hb
  go_wp2_with fail
  go_loopw [9] (fun x wr => ∃ k : Nat, k ≤ n ∧ x = .int .i64 k ∧ OwnI wr w.heap.size (.slice (some ⟨w.heap.size, 0, none⟩) n n) (P k) ∧ Below w.heap.size w wr) (fun x _ => n - (intOf x).toNat)
  case atStart => exact ⟨0, Nat.zero_le _, rfl, by rw [HZ.out]; exact HO.out, HB.out⟩
  case round =>
    obtain ⟨k, hk, rfl, hown, hbel⟩ := hrel
    have HG := Lib.hid hbel
    by_cases hlt : k < n
    · have hln := HPL.out k hk
      have ck := OwnI.cell hln.symm hown hlt
      have fk := OwnI.free hln.symm hown k
      have hset := OwnI.set hln.symm hown k (k : Int)
      have e := HP.out k hlt
      rw [HI.out k] at e
      rw [e] at hset
      have HW := Lib.hid hset
      generalize (P k).getD k 0 = y at ck
      clear hset hown hbel hln e
      go_wp2_with fail
      go_roundw
      case rel => exact ⟨k + 1, by omega, by go_num, HW.out.1, HG.out.setCell (p := ⟨w.heap.size, k, none⟩) (Nat.le_refl _) _⟩
      case measure => simp [intOf]; omega
    · have e : k = n := by omega
      subst e
      have HW := Lib.hid (OwnE.cast (HE.out.trans HN.out.symm) hown)
      clear hown
      go_wp2_with fail
      go_ret
      exact ⟨_, rfl, HW.out, HG.out⟩

theorem thr_coll (l k : List Int) : coll (fun i => [k.getD (l.getD i 0).toNat 0]) l.length = thr l k := by
  apply List.ext_getElem (by rw [coll_len, thr_len])
  intro i h1 h2
  rw [thr_len] at h2
  rw [← getD_eq h1, ← getD_eq (by rw [thr_len]; exact h2), thr_get h2, coll_getD _ h2 _]

set_option maxHeartbeats 1000000 in
/-- the images of images, where they are places -/
theorem follow_any (l k : List Int) (A B : Option Addr) (c d : Nat) (w : World) (hl : l.length ≤ 1000) (hr : ∀ x ∈ l, 0 ≤ x ∧ x < k.length) (hA : Ints w w.heap.size A l) (hB : Ints w w.heap.size B k) :
    Calls Tryd.prog 49 #[.slice A l.length c, .slice B k.length d] w fun e w' => ∃ v, e = .returned v ∧ OwnI w' w.heap.size v (thr l k) ∧ Below w.heap.size w w' := by
  have HP := Lib.hid (fun j (h : j < l.length) => pad_set (fun i => k.getD (l.getD i 0).toNat 0) 0 h)
  have HPL := Lib.hid (fun j (h : j ≤ l.length) => pad_len (fun i => k.getD (l.getD i 0).toNat 0) 0 h)
  have HZ := Lib.hid (pad_zero (fun i => k.getD (l.getD i 0).toNat 0) 0 l.length)
  have HE := Lib.hid ((pad_all (fun i => k.getD (l.getD i 0).toNat 0) 0 l.length).trans (thr_coll l k))
  have HA := Lib.hid hA
  have HK := Lib.hid hB
  have HR := Lib.hid hr
  clear hA hB hr
  generalize thr l k = R at HE ⊢
  generalize hP : pad (fun i => k.getD (l.getD i 0).toNat 0) 0 l.length = P at HP HPL HZ HE
  clear hP
  go_enter Tryd.func49, Tryd.ntmps49
  go_wp2_with (at_make; refine wpList_make_Z rfl _ _ rfl w.heap.size l.length rfl rfl (by omega) (Nat.le_refl _) ?_; intro w1 hown hb hsz)
  have HO := Lib.hid hown
  have HB := Lib.hid hb
  clear hown hb
  go_wp2_with fail
  go_loopw [13] (fun x wr => ∃ j : Nat, j ≤ l.length ∧ x = .int .i64 j ∧ OwnI wr w.heap.size (.slice (some ⟨w.heap.size, 0, none⟩) l.length l.length) (P j) ∧ Below w.heap.size w wr) (fun x _ => l.length - (intOf x).toNat)
  case atStart => exact ⟨0, Nat.zero_le _, rfl, by rw [HZ.out]; exact HO.out, HB.out⟩
  case round =>
    obtain ⟨j, hj, rfl, hown, hbel⟩ := hrel
    have HG := Lib.hid hbel
    by_cases hlt : j < l.length
    · have hln := HPL.out j hj
      obtain ⟨b, off, rfl, hb, hc⟩ := Ints.cells (HA.out.below hbel) hlt
      have cj := hc j hlt
      have hx := HR.out _ (getD_mem (d := (0 : Int)) hlt)
      obtain ⟨q, hq⟩ : ∃ q : Nat, l.getD j 0 = (q : Int) := ⟨(l.getD j 0).toNat, by omega⟩
      have HPJ := HP.out j hlt
      rw [hq] at cj hx HPJ
      have hqk : q < k.length := by omega
      obtain ⟨b2, off2, rfl, hb2, hd⟩ := Ints.cells (HK.out.below hbel) hqk
      have dq := hd q hqk
      have fj := OwnI.free hln.symm hown j
      have oj := OwnI.cell hln.symm hown hlt
      rw [Int.toNat_natCast] at HPJ
      have hset := OwnI.set hln.symm hown j (k.getD q 0)
      rw [HPJ] at hset
      have HW := Lib.hid hset
      generalize (P j).getD j 0 = y0 at oj
      generalize k.getD q 0 = y at dq HW
      have q0 : (0 : Int) ≤ (q : Int) := by omega
      have q1 : (q : Int) < (k.length : Int) := by omega
      have q2 : ((q : Int)).toNat = q := by omega
      clear hset hown hbel hln hc hd hx hq HPJ
      go_wp2_with fail
      go_roundw
      case rel => exact ⟨j + 1, by omega, by go_num, HW.out.1, HG.out.setCell (p := ⟨w.heap.size, j, none⟩) (Nat.le_refl _) _⟩
      case measure => simp [intOf]; omega
    · have e : j = l.length := by omega
      subst e
      have HW := Lib.hid (OwnE.cast HE.out hown)
      clear hown
      go_wp2_with fail
      go_ret
      exact ⟨_, rfl, HW.out, HG.out⟩

/-! inverses -/
end Go.Proofs.YtaeelanbkdkppaaDoor

/-
  Slices of structures that hold slices: what they read as, by an element's relation tq its cells.
-/
namespace Go.Proofs.YtaeelanbkdkppaaDoor
open Go.RowKit

/-- how an element lies in cells, where some of the cells lead on into memory below B -/
structure DEl (α : Type) where
  size : Nat
  rel : World → Nat → α → List Value → Prop
  len : ∀ {w B x cs}, rel w B x cs → cs.length = size
  below : ∀ {w w' B x cs}, rel w B x cs → Below B w w' → rel w' B x cs
  mono : ∀ {w B B' x cs}, rel w B x cs → B ≤ B' → rel w B' x cs

section
variable {α : Type} {D : DEl α}
/-- the slice at A reads as xs, in blocks below B -/
def DReads (D : DEl α) (w : World) (B : Nat) (A : Option Addr) (xs : List α) : Prop :=
  xs = [] ∨ ∃ b off, A = some ⟨b, off, none⟩ ∧ b < B ∧ ∀ i x, xs[i]? = some x → ∃ cs, D.rel w B x cs ∧ ∀ j u, cs[j]? = some u → w.cell? ⟨b, off + i * D.size + j, none⟩ = some u
/-- a slice value that reads as xs -/
def DSl (D : DEl α) (w : World) (B : Nat) (v : Value) (xs : List α) : Prop := ∃ A c, v = .slice A xs.length c ∧ DReads D w B A xs

theorem DReads.below {w w' : World} {B : Nat} {A : Option Addr} {xs : List α} (h : DReads D w B A xs) (hb : Below B w w') : DReads D w' B A xs := by
  rcases h with h | ⟨b, off, h1, h2, h3⟩
  · exact .inl h
  · refine .inr ⟨b, off, h1, h2, fun i x hx => ?_⟩
    obtain ⟨cs, k1, k2⟩ := h3 i x hx
    exact ⟨cs, D.below k1 hb, fun j u hu => (hb.cell (p := ⟨b, off + i * D.size + j, none⟩) h2).trans (k2 j u hu)⟩
theorem DReads.mono {w : World} {B B' : Nat} {A : Option Addr} {xs : List α} (h : DReads D w B A xs) (hb : B ≤ B') : DReads D w B' A xs := by
  rcases h with h | ⟨b, off, h1, h2, h3⟩
  · exact .inl h
  · refine .inr ⟨b, off, h1, by omega, fun i x hx => ?_⟩
    obtain ⟨cs, k1, k2⟩ := h3 i x hx
    exact ⟨cs, D.mono k1 hb, k2⟩
theorem DReads.up {w w' : World} {A : Option Addr} {xs : List α} (h : DReads D w w.heap.size A xs) (hb : Below w.heap.size w w') : DReads D w' w'.heap.size A xs := (h.below hb).mono hb.size
theorem DReads.at {w : World} {B : Nat} {A : Option Addr} {xs : List α} (h : DReads D w B A xs) {k : Nat} (hk : k < xs.length) :
    ∃ b off cs, A = some ⟨b, off, none⟩ ∧ b < B ∧ D.rel w B xs[k] cs ∧ ∀ j u, cs[j]? = some u → w.cell? ⟨b, off + k * D.size + j, none⟩ = some u := by
  rcases h with h | ⟨b, off, h1, h2, h3⟩
  · subst h; simp at hk
  · obtain ⟨cs, k1, k2⟩ := h3 k xs[k] (List.getElem?_eq_getElem hk)
    exact ⟨b, off, cs, h1, h2, k1, k2⟩
theorem DReads.take {w : World} {B : Nat} {A : Option Addr} {xs : List α} (h : DReads D w B A xs) (k : Nat) : DReads D w B A (xs.take k) := by
  rcases h with h | ⟨b, off, h1, h2, h3⟩
  · exact .inl (by rw [h]; simp)
  · refine .inr ⟨b, off, h1, h2, fun i x hx => h3 i x ?_⟩
    rw [List.getElem?_take] at hx
    split at hx
    · exact hx
    · cases hx
theorem DSl.below {w w' : World} {B : Nat} {v : Value} {xs : List α} (h : DSl D w B v xs) (hb : Below B w w') : DSl D w' B v xs := by
  obtain ⟨A, c, e, h⟩ := h
  exact ⟨A, c, e, h.below hb⟩
theorem DSl.mono {w : World} {B B' : Nat} {v : Value} {xs : List α} (h : DSl D w B v xs) (hb : B ≤ B') : DSl D w B' v xs := by
  obtain ⟨A, c, e, h⟩ := h
  exact ⟨A, c, e, h.mono hb⟩
theorem DSl.up {w w' : World} {v : Value} {xs : List α} (h : DSl D w w.heap.size v xs) (hb : Below w.heap.size w w') : DSl D w' w'.heap.size v xs := (h.below hb).mono hb.size
theorem DSl.nil (D : DEl α) (w : World) (B : Nat) : DSl D w B (.slice none 0 0) [] := ⟨none, 0, rfl, .inl rfl⟩

/-- a plain element -/
def El.deep (E : El α) : DEl α := ⟨E.size, fun _ _ x cs => cs = E.enc x, fun h => by rw [h]; exact E.len _, fun h _ => h, fun h _ => h⟩
theorem Reads.deep {E : El α} {w : World} {B : Nat} {A : Option Addr} {xs : List α} (h : Reads E w B A xs) : DReads E.deep w B A xs := by
  rcases h with h | ⟨b, off, h1, h2, h3⟩
  · exact .inl h
  · exact .inr ⟨b, off, h1, h2, fun i x hx => ⟨E.enc x, rfl, h3 i x hx⟩⟩
theorem DReads.plain {E : El α} {w : World} {B : Nat} {A : Option Addr} {xs : List α} (h : DReads E.deep w B A xs) : Reads E w B A xs := by
  rcases h with h | ⟨b, off, h1, h2, h3⟩
  · exact .inl h
  · refine .inr ⟨b, off, h1, h2, fun i x hx j u hu => ?_⟩
    obtain ⟨cs, k1, k2⟩ := h3 i x hx
    have k1 : cs = E.enc x := k1
    subst k1
    exact k2 j u hu

end

section
open Go.ChangeShapes Go.WideShapes Go.Deep

end

end Go.Proofs.YtaeelanbkdkppaaDoor

/-
  Parts in memory: what reads as a list of parts, and one that a call made, whose rows lie apart.
-/
namespace Go.Proofs.YtaeelanbkdkppaaDoor
open Go.RowKit

def DPart : DEl Mo := ⟨2, fun w B x cs => ∃ A1 c1 A2 c2, cs = [.slice A1 x.ns.length c1, .slice A2 x.es.length c2] ∧ Ints w B A1 x.ns ∧ Ints w B A2 x.es,
  fun h => by obtain ⟨A1, c1, A2, c2, rfl, _⟩ := h; rfl, fun h hb => by obtain ⟨A1, c1, A2, c2, e, h1, h2⟩ := h; exact ⟨A1, c1, A2, c2, e, Reads.below h1 hb, Reads.below h2 hb⟩, fun h hb => by obtain ⟨A1, c1, A2, c2, e, h1, h2⟩ := h; exact ⟨A1, c1, A2, c2, e, h1.mono hb, h2.mono hb⟩⟩
abbrev Pts (w : World) (B : Nat) (A : Option Addr) (ps : List Mo) : Prop := DReads DPart w B A ps
def IsP (w : World) (v : Value) (ps : List Mo) : Prop := ∃ A c, v = .slice A ps.length c ∧ Pts w w.heap.size A ps
theorem IsP.up {w w' : World} {v : Value} {ps : List Mo} (h : IsP w v ps) (hb : Below w.heap.size w w') : IsP w' v ps := by
  obtain ⟨A, c, e, h⟩ := h
  exact ⟨A, c, e, h.up hb⟩
theorem isP_nil (w : World) : IsP w (.slice none 0 0) [] := ⟨none, 0, rfl, .inl rfl⟩
end Go.Proofs.YtaeelanbkdkppaaDoor

/-
  All: the program's list of all morphisms between two graphs.
-/
namespace Go.Proofs.YtaeelanbkdkppaaDoor
open Go.RowKit Go.Shelf

attribute [local go_sem] Oper.semAt_some

theorem infoMor : (Tryd.prog.info? 27).map (fun i => (i.zero, i.size, i.bytes)) = some (some (.agg #[.slice none 0 0, .slice none 0 0]), 2, 48) := by kernel_rfl
theorem ownsRow_same {w w' : World} {base : Nat} {t : TypeId} {size : Nat} {v : Value} {n : Nat} {xs : List Value} (h : w.ownsRow base t size v n xs) (hb : ∀ g, v.ownBlock = some g → w'.heap[g]? = w.heap[g]?) : w'.ownsRow base t size v n xs := by
  refine ⟨h.1, ?_⟩
  rcases h.2 with hn | ⟨g, cap, cur, hv, hbg, hg, rest⟩
  · exact .inl hn
  · exact .inr ⟨g, cap, cur, hv, hbg, by rw [hb g (by rw [hv]; rfl)]; exact hg, rest⟩
theorem ownsRow_lt {w : World} {base : Nat} {t : TypeId} {size : Nat} {v : Value} {n : Nat} {xs : List Value} (h : w.ownsRow base t size v n xs) : ∀ k, v.ownBlock = some k → base ≤ k ∧ k < w.heap.size := World.ownsRow.lt h
/-- a row lies in another block than one of another type -/
theorem ownsRow_far {t t' : TypeId} {w : World} {base size B : Nat} {v : Value} {n : Nat} {xs : List Value} {cs : Array Value} (h : w.ownsRow base t size v n xs) (hb : w.heap[B]? = some (.cells cs t' (0, 0))) (hne : t ≠ t') : v.ownBlock ≠ some B := by
  rcases h.2 with ⟨rfl, _⟩ | ⟨g, cap, cur, rfl, _, hg, _⟩
  · simp [Value.ownBlock]
  · intro he
    have e : g = B := by simpa [Value.ownBlock] using he
    subst e
    rw [hg] at hb
    simp only [Option.some.injEq, Obj.cells.injEq] at hb
    exact hne hb.2.1

/-- a row of morphisms, whose slices lie in blocks of M -/
def RowM (base : Nat) (M : Blks) (V : World) (v : Value) (ms : List Mo) : Prop :=
  ∃ vs : List Value, V.ownsRow base 27 2 v ms.length vs ∧ ∀ i (h : i < ms.length), ∃ v1 v2, vs[i * 2]? = some v1 ∧ vs[i * 2 + 1]? = some v2 ∧ InG M V v1 ms[i].ns ∧ InG M V v2 ms[i].es
theorem RowM.nil (base : Nat) (M : Blks) (V : World) : RowM base M V (.slice none 0 0) [] := ⟨[], World.ownsRow_nil V base _ _, fun i h => by simp at h⟩
theorem RowM.same {base : Nat} {M : Blks} {V V' : World} {v : Value} {ms : List Mo} (h : RowM base M V v ms) (hs : V.heap.size ≤ V'.heap.size) (hv : ∀ g, v.ownBlock = some g → V'.heap[g]? = V.heap[g]?) (hM : ∀ b, M b → b < V.heap.size → V'.heap[b]? = V.heap[b]?) : RowM base M V' v ms := by
  obtain ⟨vs, h1, h2⟩ := h
  refine ⟨vs, ownsRow_same h1 hv, fun i hi => ?_⟩
  obtain ⟨v1, v2, e1, e2, k1, k2⟩ := h2 i hi
  exact ⟨v1, v2, e1, e2, k1.up hs hM, k2.up hs hM⟩
theorem RowM.lt {base : Nat} {M : Blks} {V : World} {v : Value} {ms : List Mo} (h : RowM base M V v ms) : ∀ k, v.ownBlock = some k → base ≤ k ∧ k < V.heap.size := by
  obtain ⟨vs, h1, _⟩ := h
  exact ownsRow_lt h1
theorem RowM.far {t' : TypeId} {base B : Nat} {M : Blks} {V : World} {v : Value} {ms : List Mo} {cs : Array Value} (h : RowM base M V v ms) (hb : V.heap[B]? = some (.cells cs t' (0, 0))) (hne : 27 ≠ t') : v.ownBlock ≠ some B := by
  obtain ⟨vs, h1, _⟩ := h
  exact ownsRow_far h1 hb hne
theorem RowM.isP {base : Nat} {M : Blks} {V : World} {v : Value} {ms : List Mo} (h : RowM base M V v ms) : IsP V v ms := by
  obtain ⟨vs, h1, h2⟩ := h
  have h1c := h1
  rcases h1.2 with ⟨hv, h0⟩ | ⟨g, cap, cur, hv, hbg, hg, _⟩
  · exact ⟨none, 0, by rw [hv, h0], .inl (List.eq_nil_of_length_eq_zero h0)⟩
  · refine ⟨_, cap, hv, .inr ⟨g, 0, rfl, (Array.getElem?_eq_some_iff.1 hg).1, fun i x hx => ?_⟩⟩
    obtain ⟨hi, ex⟩ := List.getElem?_eq_some_iff.1 hx
    obtain ⟨v1, v2, e1, e2, k1, k2⟩ := h2 i hi
    rw [ex] at k1 k2
    obtain ⟨A1, c1, rfl, r1, _⟩ := k1.isI
    obtain ⟨A2, c2, rfl, r2, _⟩ := k2.isI
    refine ⟨[.slice A1 x.ns.length c1, .slice A2 x.es.length c2], ⟨A1, c1, A2, c2, rfl, r1, r2⟩, fun j u hu => ?_⟩
    have hc := World.ownsRow.cells h1c (g := g) (by rw [hv]; rfl)
    have key : ∀ q y, vs[q]? = some y → V.cell? ⟨g, 0 + q, none⟩ = some y := fun q y hy => by
      have := hc q y hy
      rwa [addr_plain] at this
    show V.cell? ⟨g, 0 + i * 2 + j, none⟩ = some u
    rw [Nat.add_assoc]
    match j, hu with
    | 0, hu => simp at hu; subst hu; exact key _ _ e1
    | 1, hu => simp at hu; subst hu; exact key _ _ e2
    | j + 2, hu => simp at hu
theorem RowM.snoc {base : Nat} {M G : Blks} {V V' : World} {v v' v1 v2 : Value} {ms : List Mo} {m : Mo} {vs : List Value} (h1 : V.ownsRow base 27 2 v ms.length vs)
    (h2 : ∀ i (h : i < ms.length), ∃ v1 v2, vs[i * 2]? = some v1 ∧ vs[i * 2 + 1]? = some v2 ∧ InG M V v1 ms[i].ns ∧ InG M V v2 ms[i].es) (k1 : InG G V v1 m.ns) (k2 : InG G V v2 m.es)
    (hs : V.heap.size ≤ V'.heap.size) (hM : ∀ b, M b ∨ G b → b < V.heap.size → V'.heap[b]? = V.heap[b]?) (ho : V'.ownsRow base 27 2 v' (ms.length + 1) (vs ++ [v1, v2])) : RowM base (fun b => M b ∨ G b) V' v' (ms ++ [m]) := by
  have hl : vs.length = ms.length * 2 := h1.1
  refine ⟨vs ++ [v1, v2], by simpa using ho, fun i hi => ?_⟩
  by_cases e : i < ms.length
  · obtain ⟨x1, x2, e1, e2, q1, q2⟩ := h2 i e
    rw [List.getElem_append_left e]
    refine ⟨x1, x2, ?_, ?_, (q1.up hs fun b h => hM b (.inl h)).mono fun b h => .inl h, (q2.up hs fun b h => hM b (.inl h)).mono fun b h => .inl h⟩
    · rw [List.getElem?_append_left (by omega)]; exact e1
    · rw [List.getElem?_append_left (by omega)]; exact e2
  · have e : i = ms.length := by simp at hi; omega
    subst e
    have eg : (ms ++ [m])[ms.length] = m := by simp
    rw [eg]
    refine ⟨v1, v2, ?_, ?_, (k1.up hs fun b h => hM b (.inr h)).mono fun b h => .inr h, (k2.up hs fun b h => hM b (.inr h)).mono fun b h => .inr h⟩
    · rw [List.getElem?_append_right (by omega), show ms.length * 2 - vs.length = 0 by omega]; rfl
    · rw [List.getElem?_append_right (by omega), show ms.length * 2 + 1 - vs.length = 1 by omega]; rfl

theorem wpListIn_append_mor {F : Fence} {n : Nat} {w : World} {ops : Array Oper} {rest : List Oper} {o : Oper} {a : Act} {Q : Exit → Act → World → Prop} (hgd : o.guard = none) (s x : Operand)
    (ho : o.op = .call { callee := .builtin .append, args := #[s, x], argTypes := #[48, 48] }) (base : Nat) (v : Value) (k : Nat) (vs : List Value) (hs : a.eval s = v) (hown : w.ownsRow base 27 2 v k vs) (g c : Nat) (m1 m2 : Value) (hx : a.eval x = .slice (some ⟨g, 0, none⟩) 1 c)
    (h1 : w.cell? ⟨g, 0, none⟩ = some m1) (h2 : w.cell? ⟨g, 1, none⟩ = some m2) (o1 : m1.oneCell' = true) (o2 : m2.oneCell' = true) (hl : k ≤ 1000000) (hbase : base ≤ w.heap.size)
    (hK : ∀ v' w', w'.ownsRow base 27 2 v' (k + 1) (vs ++ [m1, m2]) → w.grownBy w' v.ownBlock → (v'.ownBlock = v.ownBlock ∨ v'.ownBlock = some w.heap.size) → wpListIn F n Tryd.prog ops Q rest (a.put o.dst v') w') :
    wpListIn F n Tryd.prog ops Q (o :: rest) a w := by
  refine wpListIn_plain hgd fun K hK' => ?_
  obtain ⟨i0, hi, hz0, hz1, hz2⟩ := info_parts infoMor
  obtain ⟨v', w', hrun, r1, r2, _, r4⟩ := run_append_own_at (P := Tryd.prog) w base 48 o.type 27 i0 _ 2 48 Tryd.underlying48 hi hz0 hz1 hz2 rfl (by decide) v k vs hown ⟨g, 0, none⟩ 1 c [m1, m2] rfl (by
    intro j u hj
    rw [addr_plain, Nat.zero_add]
    match j, hj with
    | 0, hj => simp at hj; subst hj; exact h1
    | 1, hj => simp at hj; subst hj; exact h2
    | j + 2, hj => simp at hj) (by
    intro u hu
    simp at hu
    rcases hu with rfl | rfl
    · exact o1
    · exact o2) (by unfold maxLen; omega) (by omega) hbase
  unfold Oper.wpIn
  refine ⟨?_, ?_⟩
  · simp [Oper.about, ho, resolve, Target.leads, Sem.run_pure]
  · rw [Oper.semAt_plain F _ _ (by rw [ho]; intro c hc'; cases hc')]
    simp [execOp, ho, resolve, invoke, builtin, hs, hx, hrun, Result.andThen]
    exact hK' _ _ (hK v' w' r1 r2 r4)

theorem results_le {fn : Func} {p q : Tmp} {er : Int} {v : Value} (h : fn.results = #[.cell p 48, .cell q 32]) (tmps : Array Value) (w : World) (g k : Nat)
    (hp : tmps.getD p undef = .pointer (some ⟨g, 0, none⟩)) (hq : tmps.getD q undef = .pointer (some ⟨k, 0, none⟩)) (hg : Boxed w g 48 v) (hk : Boxed w k 32 (.int .i64 er)) : (results fn tmps).run Tryd.prog w = .ok (.tuple #[v, .int .i64 er]) w := by
  have hp' : tmps[p]?.getD undef = .pointer (some ⟨g, 0, none⟩) := by simpa using hp
  have hq' : tmps[q]?.getD undef = .pointer (some ⟨k, 0, none⟩) := by simpa using hq
  have hc := hg.cell
  have hd := hk.cell
  simp [results, h, hp', hq', asAddr, go_sem, hc, hd]

/-- what the rounds of All hold -/
structure AllJ (base lb rl re : Nat) (pre : List Mo) (H : Blks) (V : World) (M : Blks) (v : Value) : Prop where
  box : Boxed V lb 48 v
  row : RowM base M V v pre
  brl : Boxed V rl 48 (.slice none 0 0)
  bre : Boxed V re 32 (.int .i64 0)
  own : ∀ b, v.ownBlock = some b → H b ∧ ¬ M b
  mh : ∀ b, M b → H b ∧ b ≠ lb ∧ b ≠ rl ∧ b ≠ re
  hl : H lb
  hrl : H rl
  hre : H re
  lt : ∀ b, H b → b < V.heap.size
  ge : ∀ b, H b → base ≤ b
  len : pre.length ≤ 2000
theorem AllJ.keep {base lb rl re : Nat} {pre : List Mo} {H : Blks} {V V' : World} {M : Blks} {v : Value} (h : AllJ base lb rl re pre H V M v) (hs : V.heap.size ≤ V'.heap.size) (hb : ∀ b, H b → V'.heap[b]? = V.heap[b]?) : AllJ base lb rl re pre H V' M v :=
  ⟨(hb _ h.hl).trans h.box, h.row.same hs (fun g hg => hb g (h.own g hg).1) (fun b hm _ => hb b (h.mh b hm).1), (hb _ h.hrl).trans h.brl, (hb _ h.hre).trans h.bre, h.own, h.mh, h.hl, h.hrl, h.hre, fun b hb2 => Nat.lt_of_lt_of_le (h.lt b hb2) hs, h.ge, h.len⟩
theorem AllJ.foot {Rd : Blks} {base lb rl re : Nat} {pre : List Mo} : Foot Rd (fun H V => ∃ M v, AllJ base lb rl re pre H V M v) := by
  rintro H V ⟨M, v, h⟩
  exact ⟨h.lt, fun V' hs hb => ⟨M, v, h.keep hs fun b hb2 => hb b (.inl hb2)⟩⟩
/-- and when there are too many -/
structure AllX (big : Prop) (base rl re : Nat) (H : Blks) (V : World) : Prop where
  big : big
  brl : Boxed V rl 48 (.slice none 0 0)
  bre : Boxed V re 32 (.int .i64 3)
  hrl : H rl
  hre : H re
  lt : ∀ b, H b → b < V.heap.size
theorem AllX.foot {Rd : Blks} {big : Prop} {base rl re : Nat} : Foot Rd (AllX big base rl re) := by
  rintro H V h
  exact ⟨h.lt, fun V' hs hb => ⟨h.big, (hb _ (.inl h.hrl)).trans h.brl, (hb _ (.inl h.hre)).trans h.bre, h.hrl, h.hre, fun b hb2 => Nat.lt_of_lt_of_le (h.lt b hb2) hs⟩⟩

/-- a round that takes a morphism -/
theorem all_next {base lb rl re : Nat} {pre : List Mo} {H G M : Blks} {U W w' : World} {v v' v1 v2 : Value} {x : Mo} {vs : List Value} (h : AllJ base lb rl re pre H U M v) (hlen : pre.length < 2000)
    (hg : ∀ b, G b → ¬ H b ∧ b < U.heap.size) (hgb : ∀ b, G b → base ≤ b) (i1 : InG G U v1 x.ns) (i2 : InG G U v2 x.es) (hne : rl ≠ lb ∧ re ≠ lb)
    (_ : base ≤ U.heap.size) (hW : Below U.heap.size U W) (hvs : ∀ i (h : i < pre.length), ∃ v1 v2, vs[i * 2]? = some v1 ∧ vs[i * 2 + 1]? = some v2 ∧ InG M U v1 pre[i].ns ∧ InG M U v2 pre[i].es) (hown : U.ownsRow base 27 2 v pre.length vs)
    (ho : w'.ownsRow base 27 2 v' (pre.length + 1) (vs ++ [v1, v2])) (hgr : W.grownBy w' v.ownBlock) (hv' : v'.ownBlock = v.ownBlock ∨ v'.ownBlock = some W.heap.size) :
    Keeps (fun b => H b ∨ G b) U (w'.setCell ⟨lb, 0, none⟩ v') ∧ ∃ H', (∀ b, H' b → (H b ∨ G b) ∨ U.heap.size ≤ b) ∧ ∃ M v, AllJ base lb rl re (pre ++ [x]) H' (w'.setCell ⟨lb, 0, none⟩ v') M v := by
  have s1 := hW.size
  have s2 := hgr.size
  have sz : (w'.setCell ⟨lb, 0, none⟩ v').heap.size = w'.heap.size := by simp [World.setCell]
  have hoth : ∀ b, b < U.heap.size → v.ownBlock ≠ some b → b ≠ lb → (w'.setCell ⟨lb, 0, none⟩ v').heap[b]? = U.heap[b]? := fun b h1 h2 h3 => (heap_setCell_other _ _ _ _ h3).trans ((hgr.block b (by omega) (fun e => h2 e.symm)).trans (hW.block b h1))
  have hfl : v.ownBlock ≠ some lb := h.row.far h.box (by decide)
  have hfl' : v'.ownBlock ≠ some lb := by
    rcases hv' with e | e
    · rw [e]; exact hfl
    · rw [e]; intro e2; injection e2 with e2; have := h.lt _ h.hl; omega
  have hlbw : w'.heap[lb]? = some (.cells #[v] 48 (0, 0)) := (hgr.block lb (by have := h.lt _ h.hl; omega) (fun e => hfl e.symm)).trans ((hW.block lb (h.lt _ h.hl)).trans h.box)
  have hnl : ∀ b, v'.ownBlock = some b → b ≠ lb := fun b hb e => hfl' (e ▸ hb)
  have hown' : (w'.setCell ⟨lb, 0, none⟩ v').ownsRow base 27 2 v' (pre.length + 1) (vs ++ [v1, v2]) := ownsRow_same ho fun g hg => heap_setCell_other _ _ _ _ (hnl g hg)
  have hk : Keeps (fun b => H b ∨ G b) U (w'.setCell ⟨lb, 0, none⟩ v') := by
    refine ⟨hgr.os.trans hW.os, hgr.tape.trans hW.tape, hgr.output.trans hW.output, by omega, fun b hb hn => hoth b hb (fun e => hn (.inl (h.own b e).1)) (fun e => hn (.inl (e ▸ h.hl)))⟩
  have hfr : v.ownBlock ≠ some rl := h.row.far h.brl (by decide)
  have hfe : v.ownBlock ≠ some re := h.row.far h.bre (by decide)
  have hlt' := ownsRow_lt hown'
  refine ⟨hk, fun b => H b ∨ G b ∨ v'.ownBlock = some b, fun b hb => ?_, fun b => M b ∨ G b, v', ?_, ?_, ?_, ?_, ?_, ?_, .inl h.hl, .inl h.hrl, .inl h.hre, ?_, ?_, by simp; omega⟩
  · rcases hb with hb | hb | hb
    · exact .inl (.inl hb)
    · exact .inl (.inr hb)
    · rcases hv' with e | e
      · exact .inl (.inl (h.own b (e ▸ hb)).1)
      · rw [e] at hb; injection hb with hb; exact .inr (by omega)
  · exact heap_setCell_same w' lb 0 _ _ v' hlbw
  · refine RowM.snoc hown hvs i1 i2 (by omega) (fun b hb hl => hoth b hl ?_ ?_) hown'
    · intro e
      rcases hb with hb | hb
      · exact (h.own b e).2 hb
      · exact (hg b hb).1 (h.own b e).1
    · intro e
      rcases hb with hb | hb
      · exact (h.mh b hb).2.1 e
      · exact (hg b hb).1 (e ▸ h.hl)
  · exact (hoth rl (h.lt _ h.hrl) hfr hne.1).trans h.brl
  · exact (hoth re (h.lt _ h.hre) hfe hne.2).trans h.bre
  · intro b hb
    refine ⟨.inr (.inr hb), fun hm => ?_⟩
    rcases hv' with e | e
    · rcases hm with hm | hm
      · exact (h.own b (e ▸ hb)).2 hm
      · exact (hg b hm).1 (h.own b (e ▸ hb)).1
    · rw [e] at hb
      injection hb with hb
      rcases hm with hm | hm
      · have := h.lt b (h.mh b hm).1; omega
      · have := (hg b hm).2; omega
  · intro b hb
    rcases hb with hb | hb
    · exact ⟨.inl (h.mh b hb).1, (h.mh b hb).2⟩
    · exact ⟨.inr (.inl hb), fun e => (hg b hb).1 (e ▸ h.hl), fun e => (hg b hb).1 (e ▸ h.hrl), fun e => (hg b hb).1 (e ▸ h.hre)⟩
  · intro b hb
    rcases hb with hb | hb | hb
    · have := h.lt b hb; omega
    · have := (hg b hb).2; omega
    · exact (hlt' b hb).2
  · intro b hb
    rcases hb with hb | hb | hb
    · exact h.ge b hb
    · exact hgb b hb
    · exact (hlt' b hb).1

noncomputable def allE (a b : Gr) : Nat := if chkE a b ≠ 0 then chkE a b else if 2000 < (allR a b).length then 3 else 0
noncomputable def allS (a b : Gr) : List Mo := if allE a b = 0 then allR a b else []
theorem chk_zero {a b : Gr} (h : chkE a b = 0) : validE a = 0 ∧ validE b = 0 := by
  unfold chkE at h
  split at h
  · omega
  · exact ⟨by omega, h⟩

end Go.Proofs.YtaeelanbkdkppaaDoor

/-
  Graphs, the program: the checks of AddNode, AddEdge, Union, Incident.
-/
namespace Go.Proofs.YtaeelanbkdkppaaDoor
open Go.RowKit

theorem ne_beq {a b : Int} (h : a ≠ b) : (a == b) = false := beq_eq_false_iff_ne.2 h

end Go.Proofs.YtaeelanbkdkppaaDoor

/-
  All: the walk.
-/
namespace Go.Proofs.YtaeelanbkdkppaaDoor
open Go.RowKit Go.Shelf

attribute [local go_sem] Oper.semAt_some

set_option maxRecDepth 100000 in
set_option maxHeartbeats 4000000 in
theorem all_any (a b : Gr) (An : Option Addr) (cn : Nat) (Ae : Option Addr) (ce : Nat) (Bn : Option Addr) (dn : Nat) (Be : Option Addr) (de : Nat) (w : World) (h00 : 0 < w.heap.size) (hT : TabW w) (hTa : GrAt w An cn Ae ce a) (hTb : GrAt w Bn dn Be de b) :
    Calls Tryd.prog 31 #[gval An a.ns.length cn Ae a.es.length ce, gval Bn b.ns.length dn Be b.es.length de] w fun e w' => (∃ v, e = .returned (.tuple #[v, .int .i64 (allE a b : Int)]) ∧ IsP w' v (allS a b)) ∧ Below w.heap.size w w' := by
  have HCZ := Lib.hid (fun h => chk_zero (a := a) (b := b) h)
  have HAE : Hid (allE a b = if chkE a b ≠ 0 then chkE a b else if 2000 < (allR a b).length then 3 else 0) := Lib.hid rfl
  have HAS : Hid (allS a b = if allE a b = 0 then allR a b else []) := Lib.hid rfl
  have HC := Lib.hid (fun (u : World) (hu : Below w.heap.size w u) => chkM_any a b An cn Ae ce Bn dn Be de u (hTa.up hu) (hTb.up hu))
  have HTA := Lib.hid hTa
  have HTB := Lib.hid hTb
  have HT := Lib.hid hT
  clear hT hTa hTb
  generalize allE a b = E at *
  generalize allS a b = L at *
  generalize chkE a b = z at *
  refine (callsIn_wide (n := 6)).1 ?_
  refine callsIn_of_wp_marks Tryd.func31 rfl trivial ?_ rfl
  simp only [Tryd.ntmps31, List.size_toArray, List.length_cons, List.length_nil, Nat.reduceAdd, Nat.reduceSub, Array.replicate_succ, Array.replicate_zero, List.push_toArray, List.append_toArray, List.nil_append, List.cons_append]
  gi_upto_region 1 with fail
  generalize hW0 : (((w.alloc _).alloc _).alloc _).alloc _ = W0
  have hB : Below w.heap.size w W0 := by
    rw [← hW0]
    refine Below.alloc (Below.alloc (Below.alloc (Below.alloc (Below.refl _ _) ?_ _) ?_ _) ?_ _) ?_ _ <;> simp <;> omega
  have hs : W0.heap.size = w.heap.size + 4 := by rw [← hW0]; simp
  have b1 : W0.heap[w.heap.size]? = some (.cells #[.slice An a.ns.length cn, .slice Ae a.es.length ce] 25 (0, 0)) := by rw [← hW0]; simp only [at_alloc, size_alloc]; repeat (first | rfl | (split; · (first | rfl | omega)))
  have b2 : W0.heap[w.heap.size + 1]? = some (.cells #[.slice Bn b.ns.length dn, .slice Be b.es.length de] 25 (0, 0)) := by rw [← hW0]; simp only [at_alloc, size_alloc]; repeat (first | rfl | (split; · (first | rfl | omega)))
  have b3 : Boxed W0 (w.heap.size + 1 + 1) 48 (.slice none 0 0) := by rw [← hW0]; simp only [Boxed, at_alloc, size_alloc]; repeat (first | rfl | (split; · (first | rfl | omega)))
  have b4 : Boxed W0 (w.heap.size + 1 + 1 + 1) 32 (.int .i64 0) := by rw [← hW0]; simp only [Boxed, at_alloc, size_alloc]; repeat (first | rfl | (split; · (first | rfl | omega)))
  clear hW0
  have HC0 := Lib.hid (HC.out W0 hB)
  have HB := Lib.hid hB
  have HB1 := Lib.hid b1
  have HB2 := Lib.hid b2
  have HB3 := Lib.hid b3
  have HB4 := Lib.hid b4
  obtain ⟨p1, p2⟩ := cell2 b1
  obtain ⟨p3, p4⟩ := cell2 b2
  clear hB b1 b2 b3 b4 HC
  gi_upto_region 2 with (refine ⟨trivial, ?_⟩; gi_at_call 38; refine (callsIn_wide.2 HC0.out).mono ?_; rintro e w1 ⟨rfl, hb1⟩)
  obtain ⟨rl, hrl⟩ : ∃ rl, rl = w.heap.size + 1 + 1 := ⟨_, rfl⟩
  obtain ⟨re, hre⟩ : ∃ re, re = w.heap.size + 1 + 1 + 1 := ⟨_, rfl⟩
  rw [← hre, ← hrl]
  rw [← hre] at HB4
  rw [← hrl] at HB3
  have hs1 : w.heap.size + 4 ≤ w1.heap.size := by have := hb1.size; omega
  have HBW : Hid (Below w.heap.size w w1) := Lib.hid (HB.out.trans (hb1.mono (by omega)))
  have q1 := heap_up hb1 HB1.out
  have q2 := heap_up hb1 HB2.out
  have q3 : Boxed w1 rl 48 (.slice none 0 0) := heap_up hb1 HB3.out
  have q4 : Boxed w1 re 32 (.int .i64 0) := heap_up hb1 HB4.out
  have HRL := Lib.hid hrl
  have HRE := Lib.hid hre
  clear hb1 HB HB1 HB2 HB3 HB4 p1 p2 p3 p4 HC0 hs W0 hrl hre
  by_cases hz : z = 0
  case neg =>
    have t1 : ((z : Int) != 0) = true := by simp; omega
    have HEE := Lib.hid (show E = z by rw [HAE.out, if_pos hz])
    have HLL := Lib.hid (show L = [] by rw [HAS.out, HEE.out, if_neg hz])
    have x3 := q3.cell
    have x3f := q3.frozen
    have x4 := q4.cell
    have x4f := q4.frozen
    have hne : rl ≠ re := by have := HRL.out; have := HRE.out; omega
    have HQ3 := Lib.hid q3
    have HQ4 := Lib.hid q4
    clear q1 q2 q3 q4 hz HAE HAS
    gi_wp2
    rw [HLL.out]
    exact ⟨_, results_le rfl _ _ rl re rfl rfl ((heap_setCell_other _ _ _ _ hne).trans (HQ3.out.set (.slice none 0 0))) (by
      have hb : Boxed (w1.setCell ⟨rl, 0, none⟩ (.slice none 0 0)) re 32 (.int .i64 0) := (heap_setCell_other _ _ _ _ (fun e => hne e.symm)).trans HQ4.out
      exact hb.set _), ⟨_, by rw [HEE.out], isP_nil _⟩, (HBW.out.setCell (p := ⟨rl, 0, none⟩) (by have := HRL.out; show w.heap.size ≤ rl; omega) _).setCell (p := ⟨re, 0, none⟩) (by have := HRE.out; show w.heap.size ≤ re; omega) _⟩
  subst hz
  obtain ⟨hva, hvb⟩ := HCZ.out rfl
  have HQ1 := Lib.hid q1
  have HQ2 := Lib.hid q2
  have HQ3 := Lib.hid q3
  have HQ4 := Lib.hid q4
  have HEE : Hid (E = if 2000 < (allR a b).length then 3 else 0) := Lib.hid (by rw [HAE.out, if_neg (fun h => h rfl)])
  clear q1 q2 q3 q4 HAE HCZ
  gi_upto_region 5 with fail
  generalize hW2 : w1.alloc _ = W2
  obtain ⟨lb, hlb⟩ : ∃ lb, lb = w1.heap.size := ⟨_, rfl⟩
  have hb2 : Below w1.heap.size w1 W2 := by rw [← hW2]; exact (Below.refl _ _).alloc (Nat.le_refl _) _
  have r7 : Boxed W2 lb 48 (.slice none 0 0) := by rw [← hW2, hlb]; exact Boxed.new w1 _ _
  have hs2 : W2.heap.size = w1.heap.size + 1 := by rw [← hW2]; simp
  rw [← hlb]
  have HS2 := Lib.hid hs2
  have HLB := Lib.hid hlb
  have r1 := heap_up hb2 HQ1.out
  have r2 := heap_up hb2 HQ2.out
  have HR3 : Hid (Boxed W2 rl 48 (.slice none 0 0)) := Lib.hid (heap_up hb2 HQ3.out)
  have HR4 : Hid (Boxed W2 re 32 (.int .i64 0)) := Lib.hid (heap_up hb2 HQ4.out)
  have HR7 := Lib.hid r7
  have HB2 : Hid (Below w.heap.size w W2) := Lib.hid (HBW.out.trans (hb2.mono (by omega)))
  obtain ⟨p1, p2⟩ := cell2 r1
  obtain ⟨p3, p4⟩ := cell2 r2
  have HMM := Lib.hid (morphisms_any (.slice An a.ns.length cn) (.slice Ae a.es.length ce) (.slice Bn b.ns.length dn) (.slice Be b.es.length de) W2)
  clear hW2 hb2 r1 r2 r7 HQ1 HQ2 HQ3 HQ4 hlb hs2
  gi_wp2_with (refine ⟨trivial, ?_⟩; gi_at_call 56; refine (callsIn_wide.2 HMM.out).mono ?_; rintro e w3 ⟨rfl, hw3⟩)
  obtain ⟨W3, hW3⟩ : ∃ W3, W3 = w3 := ⟨_, rfl⟩
  rw [← hw3, ← hW3]
  have hb3 : Below W2.heap.size W2 W3 := by rw [hW3, hw3]; exact ((Below.refl _ _).alloc (Nat.le_refl _) _).alloc (by simp) _
  have ga : W3.heap[W2.heap.size]? = some (.cells #[.slice An a.ns.length cn, .slice Ae a.es.length ce] 25 (0, 0)) := by rw [hW3, hw3]; exact heap_two _ _ _
  have gb : W3.heap[W2.heap.size + 1]? = some (.cells #[.slice Bn b.ns.length dn, .slice Be b.es.length de] 25 (0, 0)) := by rw [hW3, hw3]; exact heap_two' _ _ _
  have hs3 : W3.heap.size = W2.heap.size + 2 := by rw [hW3, hw3]; simp
  have hbW : Below w.heap.size w W3 := HB2.out.trans (hb3.mono HB2.out.size)
  have k3 : Boxed W3 rl 48 (.slice none 0 0) := heap_up hb3 HR3.out
  have k4 : Boxed W3 re 32 (.int .i64 0) := heap_up hb3 HR4.out
  have k7 : Boxed W3 lb 48 (.slice none 0 0) := heap_up hb3 HR7.out
  clear hW3 hw3 p1 p2 p3 p4 HMM hb3 HR3 HR4 HR7
  have hMV := morphisms_visits a b hva hvb An cn Ae ce Bn dn Be de W2.heap.size (W2.heap.size + 1) w W3 h00 HT.out HTA.out HTB.out hbW ga gb
  have HBW3 := Lib.hid hbW
  have hrl := HRL.out
  have hre := HRE.out
  have hlb := HLB.out
  have hs2 := HS2.out
  have hJ0 : AllJ w.heap.size lb rl re [] (fun k => k = lb ∨ k = rl ∨ k = re) W3 (fun _ => False) (.slice none 0 0) :=
    ⟨k7, RowM.nil _ _ _, k3, k4, fun k h => (by cases h), fun k h => h.elim, .inl rfl, .inr (.inl rfl), .inr (.inr rfl), fun k h => (by rcases h with h | h | h <;> omega), fun k h => (by rcases h with h | h | h <;> omega), by simp⟩
  have HS3 := Lib.hid hs3
  have HEQ : Hid (allP a b = allR a b) := Lib.hid (allP_eq hva hvb)
  refine wpIn_visits (gf := 68) (ba := #[]) (lb := #[.pointer (some ⟨W2.heap.size, 0, none⟩), .pointer (some ⟨W2.heap.size + 1, 0, none⟩)]) rfl (enters_of Tryd.func68 (by kernel_rfl) rfl) hMV (fun x G V vs h => by obtain ⟨v, u, h, _⟩ := h; rw [h]; rfl)
    (fun pre H V => ∃ M v, AllJ w.heap.size lb rl re pre H V M v) (fun code H V => IsRet code ∧ AllX (2000 < (allP a b).length) w.heap.size rl re H V) (fun _ => AllJ.foot) (fun _ => AllX.foot.pure _) (fun k => k = lb ∨ k = rl ∨ k = re) ⟨_, _, hJ0⟩ ?hO ?round ?done ?stop
  case hO =>
    rintro k (h | h | h)
    · exact ⟨fun h2 => by rcases h2 with h2 | h2 | h2 <;> omega, by omega⟩
    · exact ⟨fun h2 => by rcases h2 with h2 | h2 | h2 <;> omega, by omega⟩
    · exact ⟨fun h2 => by rcases h2 with h2 | h2 | h2 <;> omega, by omega⟩
  case round =>
    rintro l pre x H G vs V K hl ⟨r0, hr⟩ hHl hGl ⟨M, v, hA⟩ hx ⟨v1, v2, rfl, i1, i2, hGB⟩ hGa hK
    obtain ⟨A1, c1, e1, _⟩ := id i1
    obtain ⟨A2, c2, e2, _⟩ := id i2
    subst e1 e2
    have HI1 := Lib.hid i1
    have HI2 := Lib.hid i2
    have HA := Lib.hid hA
    have HR := Lib.hid hr
    have HX := Lib.hid hx
    have HGB := Lib.hid hGB
    have HGA := Lib.hid hGa
    have HLL := Lib.hid hl
    have HHL := Lib.hid hHl
    have HGL := Lib.hid hGl
    clear hrl hre hlb hs2 hs3 i1 i2 hA hr hx hGB hGa hl hHl hGl hMV hbW
    dsimp only
    gi_wp2
    refine hK _ _ (keeps_alloc _ _ _) fun r => ?_
    have hlV : l < V.heap.size := heap_lt HR.out
    have hu : ∀ k, k < V.heap.size → k ≠ l → ((V.alloc (.cells #[.slice A1 x.ns.length c1, .slice A2 x.es.length c2] 27)).putObj l (.loop r)).heap[k]? = V.heap[k]? := fun k h1 h2 => (World.putObj_heap_other h2).trans (Below.heap_alloc V _ k h1)
    have hnb : ((V.alloc (.cells #[.slice A1 x.ns.length c1, .slice A2 x.es.length c2] 27)).putObj l (.loop r)).heap[V.heap.size]? = some (.cells #[.slice A1 x.ns.length c1, .slice A2 x.es.length c2] 27 (0, 0)) := (World.putObj_heap_other (by omega)).trans (heap_alloc_new _ _)
    have hsU : ((V.alloc (.cells #[.slice A1 x.ns.length c1, .slice A2 x.es.length c2] 27)).putObj l (.loop r)).heap.size = V.heap.size + 1 := by simp
    generalize (V.alloc (.cells #[.slice A1 x.ns.length c1, .slice A2 x.es.length c2] 27)).putObj l (.loop r) = U at *
    have kA : AllJ w.heap.size lb rl re pre H U M v := HA.out.keep (by omega) fun k hk => hu k (HA.out.lt k hk) (fun e => HHL.out (e ▸ hk))
    have kI1 : InG G U (.slice A1 x.ns.length c1) x.ns := HI1.out.up (by omega) fun k h1 h2 => hu k h2 (fun e => HGL.out (e ▸ h1))
    have kI2 : InG G U (.slice A2 x.es.length c2) x.es := HI2.out.up (by omega) fun k h1 h2 => hu k h2 (fun e => HGL.out (e ▸ h1))
    obtain ⟨vs, hown, hvs⟩ := kA.row
    obtain ⟨rA, rc, rfl⟩ := slice_of hown
    have x7 := kA.box.cell
    have x7f := kA.box.frozen
    obtain ⟨y1, y2⟩ := cell2 hnb
    have x3 := kA.brl.cell
    have x3f := kA.brl.frozen
    have x4 := kA.bre.cell
    have x4f := kA.bre.frozen
    have hne : rl ≠ re := by have := HRL.out; have := HRE.out; omega
    have hne' : re ≠ rl := fun e => hne e.symm
    have HKA := Lib.hid kA
    have HSU := Lib.hid hsU
    have HHN : Hid (rl ≠ lb ∧ re ≠ lb) := Lib.hid ⟨by have := HRL.out; have := HLB.out; omega, by have := HRE.out; have := HLB.out; omega⟩
    by_cases hlen : pre.length = 2000
    · have t : ((pre.length : Int) == 2000) = true := by simp [hlen]
      have hbr : Boxed (U.setCell ⟨rl, 0, none⟩ (.slice none 0 0)) re 32 (.int .i64 0) := (heap_setCell_other _ _ _ _ hne').trans kA.bre
      have HEND : Hid (Keeps (fun k => H k ∨ G k) U ((U.setCell ⟨rl, 0, none⟩ (.slice none 0 0)).setCell ⟨re, 0, none⟩ (.int .i64 3)) ∧ AllX (2000 < (allP a b).length) w.heap.size rl re H ((U.setCell ⟨rl, 0, none⟩ (.slice none 0 0)).setCell ⟨re, 0, none⟩ (.int .i64 3))) := by
        refine Lib.hid ⟨(keeps_setCell (H := fun k => H k ∨ G k) U ⟨rl, 0, none⟩ _ (.inl kA.hrl)).trans (keeps_setCell (H := fun k => H k ∨ G k) _ ⟨re, 0, none⟩ _ (.inl kA.hre)) fun _ _ h => h, ?_, (heap_setCell_other _ _ _ _ hne).trans (kA.brl.set _), hbr.set _, kA.hrl, kA.hre, fun k hk => ?_⟩
        · have := HX.out.length_le
          simp at this
          omega
        · have := kA.lt k hk
          simpa [World.setCell] using this
      clear hlen hbr kI1 kI2 hown hvs hu hnb y1 y2 kA hsU
      gi_wp2
      exact ⟨HEND.out.1, H, fun k h => .inl (.inl h), rfl, HEND.out.2⟩
    · have t : ((pre.length : Int) == 2000) = false := ne_beq (by omega)
      have hl3 := kA.len
      have HOA := Lib.hid (World.ownsRow.alloc hown (.cells #[.slice A1 x.ns.length c1, .slice A2 x.es.length c2] 27))
      have hcn := cell2 (heap_alloc_new U (.cells #[.slice A1 x.ns.length c1, .slice A2 x.es.length c2] 27))
      rw [hsU] at hcn
      have HC1 := Lib.hid hcn.1
      have HC2 := Lib.hid hcn.2
      have HVS := Lib.hid hvs
      have HKI1 := Lib.hid kI1
      have HKI2 := Lib.hid kI2
      have HOW := Lib.hid hown
      have HL3 : Hid (pre.length < 2000) := Lib.hid (by omega)
      have HGG : Hid (∀ k, G k → ¬ H k ∧ k < U.heap.size) := Lib.hid fun k h => ⟨(HGA.out k h).1, by have := (HGA.out k h).2; omega⟩
      have HGE : Hid (∀ k, G k → w.heap.size ≤ k) := Lib.hid fun k h => Nat.le_trans HBW3.out.size (HGB.out k h)
      have HWU : Hid (w.heap.size ≤ U.heap.size) := Lib.hid (by have := kA.lt _ kA.hl; have := kA.ge _ kA.hl; omega)
      have HBA : Hid (Below U.heap.size U (U.alloc (.cells #[.slice A1 x.ns.length c1, .slice A2 x.es.length c2] 27))) := Lib.hid ((Below.refl _ _).alloc (Nat.le_refl _) _)
      have HFL : Hid ((Value.slice rA pre.length rc).ownBlock ≠ some lb) := Lib.hid (kA.row.far kA.box (by decide))
      clear hlen kI1 kI2 hown hvs hu hnb x3 x3f x4 x4f kA hcn
      gi_wp2_with (first | (with_reducible refine wpListIn_append_mor rfl _ _ rfl w.heap.size (.slice rA pre.length rc) pre.length vs rfl HOA.out (V.heap.size + 1) 1 _ _ rfl HC1.out HC2.out rfl rfl (by omega) (Nat.le_trans HWU.out HBA.out.size) ?_) | (intro v' w2 r1 r2 r3; have q7 : Boxed w2 lb 48 (.slice rA pre.length rc) := (r2.block lb (Nat.lt_of_lt_of_le (HKA.out.lt _ HKA.out.hl) HBA.out.size) (fun e => HFL.out e.symm)).trans ((HBA.out.block lb (HKA.out.lt _ HKA.out.hl)).trans HKA.out.box); have q7c := q7.cell; have q7f := q7.frozen; have HEND := Lib.hid (all_next (G := G) HKA.out HL3.out HGG.out HGE.out HKI1.out HKI2.out HHN.out HWU.out HBA.out HVS.out HOW.out r1 r2 r3); obtain ⟨a6, c6, hv6⟩ := slice_of r1; subst hv6; clear r1 r2 r3 q7))
      exact ⟨HEND.out.1, HEND.out.2.choose, fun k h => (HEND.out.2.choose_spec.1 k h).imp id (fun h => by have := HSU.out; omega), HEND.out.2.choose_spec.2⟩
  case done =>
    rintro D H Wf hD hHD hg ⟨M, v, hA⟩ hk hKd
    have hDW : w.heap.size ≤ D := by have := hbW.size; omega
    have nD : ∀ k, H k → k ≠ D := fun k h e => hHD (by rw [← e]; exact h)
    obtain ⟨vs, hown, hvs⟩ := id hA.row
    obtain ⟨rA, rc, hve⟩ := slice_of hown
    have x7 := hA.box.cell
    have x3 := hA.brl.cell
    have x3f := hA.brl.frozen
    have hne : rl ≠ re := by omega
    have hb1 : Boxed (Wf.setCell ⟨rl, 0, none⟩ v) re 32 (.int .i64 0) := (heap_setCell_other _ _ _ _ (fun e => hne e.symm)).trans hA.bre
    have x4 := hb1.cell
    have x4f := hb1.frozen
    have hwf : W3.heap.size ≤ Wf.heap.size := hk.size
    have hbF : Below w.heap.size w (((Wf.setCell ⟨rl, 0, none⟩ v).setCell ⟨re, 0, none⟩ (.int .i64 0)).putObj D (.deferred none)) := by
      have h1 : Below w.heap.size w Wf := hbW.trans (hk.below hbW.size fun i hi h => by rcases h with h | h | h <;> omega)
      have h2 := (h1.setCell (p := ⟨rl, 0, none⟩) (by show w.heap.size ≤ rl; omega) v).setCell (p := ⟨re, 0, none⟩) (by show w.heap.size ≤ re; omega) (.int .i64 0)
      exact h2.trans ⟨rfl, rfl, rfl, by simp, fun k hk => World.putObj_heap_other (by omega)⟩
    have HDF : Hid (((Wf.setCell ⟨rl, 0, none⟩ v).setCell ⟨re, 0, none⟩ (.int .i64 0)).heap[D]? = some (.deferred (some []))) := Lib.hid ((heap_setCell_other _ _ _ _ (nD _ hA.hre).symm).trans ((heap_setCell_other _ _ _ _ (nD _ hA.hrl).symm).trans hKd))
    have oth : ∀ k, k ≠ rl → k ≠ re → k ≠ D → (((Wf.setCell ⟨rl, 0, none⟩ v).setCell ⟨re, 0, none⟩ (.int .i64 0)).putObj D (.deferred none)).heap[k]? = Wf.heap[k]? := fun k h1 h2 h3 => (World.putObj_heap_other h3).trans ((heap_setCell_other _ _ _ _ h2).trans (heap_setCell_other _ _ _ _ h1))
    have hRow : RowM w.heap.size M (((Wf.setCell ⟨rl, 0, none⟩ v).setCell ⟨re, 0, none⟩ (.int .i64 0)).putObj D (.deferred none)) v (allP a b) := by
      refine hA.row.same (by simp [World.setCell]) (fun g hg => oth g (fun e => hA.row.far hA.brl (by decide) (e ▸ hg)) (fun e => hA.row.far hA.bre (by decide) (e ▸ hg)) (nD _ (hA.own g hg).1)) (fun k hm _ => oth k (hA.mh k hm).2.2.1 (hA.mh k hm).2.2.2 (nD _ (hA.mh k hm).1))
    have hP := hRow.isP
    have hle : ¬ 2000 < (allR a b).length := by rw [← HEQ.out]; have := hA.len; omega
    have he : E = 0 := by rw [HEE.out, if_neg hle]
    have hL : L = allP a b := by rw [HAS.out, he, if_pos rfl, HEQ.out]
    rw [← hL] at hP
    have HP := Lib.hid hP
    have HB := Lib.hid hbF
    have HE := Lib.hid he
    have HZ1 : Hid (Boxed (((Wf.setCell ⟨rl, 0, none⟩ v).setCell ⟨re, 0, none⟩ (.int .i64 0)).putObj D (.deferred none)) rl 48 v) := Lib.hid ((World.putObj_heap_other (nD _ hA.hrl)).trans ((heap_setCell_other _ _ _ _ hne).trans (hA.brl.set v)))
    have HZ2 : Hid (Boxed (((Wf.setCell ⟨rl, 0, none⟩ v).setCell ⟨re, 0, none⟩ (.int .i64 0)).putObj D (.deferred none)) re 32 (.int .i64 0)) := Lib.hid ((World.putObj_heap_other (nD _ hA.hre)).trans (hb1.set _))
    have hne' : re ≠ rl := fun e => hne e.symm
    clear hL he hP hbF hRow oth hle hb1 hA hown hvs hk hKd hg hHD nD hbW hMV hJ0 k3 k4 k7 ga gb hrl hre hlb hs2 hs3 hwf hDW
    subst hve
    gi_wp2
    refine ⟨by simp, .inl ⟨_, _, rfl, run_takeDeferred HDF.out, ?_⟩⟩
    exact ⟨_, results_le rfl _ _ rl re rfl rfl HZ1.out HZ2.out, ⟨_, by rw [HE.out]; rfl, HP.out⟩, HB.out⟩
  case stop =>
    rintro D code H Wf hD hHD hg ⟨rfl, hX⟩ hk hKd
    have nD : ∀ k, H k → k ≠ D := fun k h e => hHD (by rw [← e]; exact h)
    have hbF : Below w.heap.size w (Wf.putObj D (.deferred none)) := by
      have h1 : Below w.heap.size w Wf := hbW.trans (hk.below hbW.size fun i hi h => by rcases h with h | h | h <;> omega)
      exact h1.trans ⟨rfl, rfl, rfl, by simp, fun k hk => World.putObj_heap_other (by have := hbW.size; omega)⟩
    have hbig : 2000 < (allR a b).length := by rw [← HEQ.out]; exact hX.big
    have he : E = 3 := by rw [HEE.out, if_pos hbig]
    have hL : L = [] := by rw [HAS.out, he, if_neg (by decide)]
    have HB := Lib.hid hbF
    have HE := Lib.hid he
    have HL := Lib.hid hL
    have HKD := Lib.hid hKd
    have HZ1 : Hid (Boxed (Wf.putObj D (.deferred none)) rl 48 (.slice none 0 0)) := Lib.hid ((World.putObj_heap_other (nD _ hX.hrl)).trans hX.brl)
    have HZ2 : Hid (Boxed (Wf.putObj D (.deferred none)) re 32 (.int .i64 3)) := Lib.hid ((World.putObj_heap_other (nD _ hX.hre)).trans hX.bre)
    clear hL he hbF hbig hX hk hKd hg hHD nD hbW hMV hJ0 k3 k4 k7 ga gb hrl hre hlb hs2 hs3
    gi_wp2
    refine ⟨by simp, .inl ⟨_, _, rfl, run_takeDeferred HKD.out, ?_⟩⟩
    exact ⟨_, results_le rfl _ _ rl re rfl rfl HZ1.out HZ2.out, ⟨_, by rw [HE.out]; rfl, by rw [HL.out]; exact isP_nil _⟩, HB.out⟩

end Go.Proofs.YtaeelanbkdkppaaDoor

/-
  The program's Valid.
-/
namespace Go.Proofs.YtaeelanbkdkppaaDoor
open Go.RowKit Go.Shelf

/-- the three boxes of a call that is given two graphs and a morphism -/
def VS (B : Nat) (v1 v2 v3 v4 v5 v6 : Value) (w u : World) : Prop :=
  u.heap[B]? = some (.cells #[v1, v2] 25 (0, 0)) ∧ u.heap[B + 1]? = some (.cells #[v3, v4] 25 (0, 0)) ∧ u.heap[B + 2]? = some (.cells #[v5, v6] 27 (0, 0)) ∧ Below w.heap.size w u ∧ B = w.heap.size
theorem VS.up {B : Nat} {v1 v2 v3 v4 v5 v6 : Value} {w u u' : World} (h : VS B v1 v2 v3 v4 v5 v6 w u) (hb : Below u.heap.size u u') : VS B v1 v2 v3 v4 v5 v6 w u' :=
  ⟨heap_up hb h.1, heap_up hb h.2.1, heap_up hb h.2.2.1, h.2.2.2.1.trans (hb.mono h.2.2.2.1.size), h.2.2.2.2⟩
theorem VS.cells {B : Nat} {v1 v2 v3 v4 v5 v6 : Value} {w u : World} (h : VS B v1 v2 v3 v4 v5 v6 w u) : u.cell? ⟨B, 0, none⟩ = some v1 ∧ u.cell? ⟨B, 1, none⟩ = some v2 ∧ u.cell? ⟨B + 1, 0, none⟩ = some v3 ∧ u.cell? ⟨B + 1, 1, none⟩ = some v4 ∧ u.cell? ⟨B + 2, 0, none⟩ = some v5 ∧ u.cell? ⟨B + 2, 1, none⟩ = some v6 :=
  ⟨(cell2 h.1).1, (cell2 h.1).2, (cell2 h.2.1).1, (cell2 h.2.1).2, (cell2 h.2.2.1).1, (cell2 h.2.2.1).2⟩
theorem VS.new (w : World) (v1 v2 v3 v4 v5 v6 : Value) : VS w.heap.size v1 v2 v3 v4 v5 v6 w (((w.alloc (.cells #[v1, v2] 25 (0, 0))).alloc (.cells #[v3, v4] 25 (0, 0))).alloc (.cells #[v5, v6] 27 (0, 0))) := by
  refine ⟨?_, ?_, ?_, ?_, rfl⟩
  · simp only [at_alloc, size_alloc]; repeat (first | rfl | (split; · (first | rfl | omega)))
  · simp only [at_alloc, size_alloc]; repeat (first | rfl | (split; · (first | rfl | omega)))
  · simp only [at_alloc, size_alloc]; repeat (first | rfl | (split; · (first | rfl | omega)))
  · refine Below.alloc (Below.alloc (Below.alloc (Below.refl _ _) ?_ _) ?_ _) ?_ _ <;> simp <;> omega

set_option maxRecDepth 100000 in
set_option maxHeartbeats 4000000 in
theorem validM_any (a b : Gr) (m : Mo) (An : Option Addr) (cn : Nat) (Ae : Option Addr) (ce : Nat) (Bn : Option Addr) (dn : Nat) (Be : Option Addr) (de : Nat) (Mn : Option Addr) (mn : Nat) (Me : Option Addr) (me : Nat) (w : World)
    (hT : GrAt w An cn Ae ce a) (hU : GrAt w Bn dn Be de b) (hM : Ints w w.heap.size Mn m.ns) (hN : Ints w w.heap.size Me m.es) (hl1 : m.ns.length ≤ 1000) (hl2 : m.es.length ≤ 1000) :
    Calls Tryd.prog 12 #[gval An a.ns.length cn Ae a.es.length ce, gval Bn b.ns.length dn Be b.es.length de, gval Mn m.ns.length mn Me m.es.length me] w fun e w' => e = .returned (.int .i64 (morE a b m)) ∧ Below w.heap.size w w' := by
  obtain ⟨B, hB⟩ : ∃ B, B = w.heap.size := ⟨_, rfl⟩
  have hV0 := VS.new w (.slice An a.ns.length cn) (.slice Ae a.es.length ce) (.slice Bn b.ns.length dn) (.slice Be b.es.length de) (.slice Mn m.ns.length mn) (.slice Me m.es.length me)
  rw [← hB] at hV0
  have HV0 := Lib.hid hV0
  have HC := Lib.hid (fun (u : World) (hu : Below w.heap.size w u) => chkM_any a b An cn Ae ce Bn dn Be de u (hT.up hu) (hU.up hu))
  have HR : Hid (morE a b m = if chkE a b ≠ 0 then chkE a b else if m.ns.length ≠ a.ns.length ∨ m.es.length ≠ a.es.length then 20
      else if fstN (mnAt a b m) 0 a.ns.length ≠ 0 then fstN (mnAt a b m) 0 a.ns.length else fstN (meAt a b m) 0 a.es.length) := Lib.hid (by
    unfold morE chkE
    by_cases h1 : validE a = 0
    · simp [h1]
    · simp [h1])
  have HCZ := Lib.hid (fun h => valid_zero (g := a) h)
  have HCV : Hid (chkE a b = 0 → validE a = 0) := Lib.hid (by unfold chkE; split <;> intro h <;> omega)
  have HT := Lib.hid hT
  have HU := Lib.hid hU
  have HM := Lib.hid hM
  have HN := Lib.hid hN
  have HVE := Lib.hid (fun (h : validE a = 0) i (hi : i < a.es.length) => valid_at h hi)
  clear hT hU hM hN hV0
  generalize morE a b m = R at HR ⊢
  generalize chkE a b = z at *
  have HBW := Lib.hid hB
  go_enter Tryd.func12, Tryd.ntmps12
  go_wp2_with fail
  refine (HC.out _ HV0.out.2.2.2.1).mono ?_
  rintro e w1 ⟨rfl, hb1⟩
  have hV := HV0.out.up hb1
  clear hb1 HV0 HC
  have HV := Lib.hid hV
  have hp := hV.cells
  rw [hB] at hp
  obtain ⟨p1, p2, p3, p4, p5, p6⟩ := hp
  clear hV hB
  by_cases hz : z = 0
  case neg =>
    have HRR := Lib.hid (show R = z by rw [HR.out, if_pos hz])
    have t1 : ((z : Int) != 0) = true := by simp; omega
    clear hz
    go_wp2_with fail
    go_ret
    exact ⟨ret_int (by rw [HRR.out]), HV.out.2.2.2.1⟩
  subst hz
  have HR1 := Lib.hid (show R = if m.ns.length ≠ a.ns.length ∨ m.es.length ≠ a.es.length then 20 else if fstN (mnAt a b m) 0 a.ns.length ≠ 0 then fstN (mnAt a b m) 0 a.ns.length else fstN (meAt a b m) 0 a.es.length by rw [HR.out, if_neg (fun h => h rfl)])
  clear HR
  by_cases h1 : m.ns.length = a.ns.length
  case neg =>
    have HRR := Lib.hid (show R = 20 by rw [HR1.out, if_pos (.inl h1)])
    have t1 : ((m.ns.length : Int) != (a.ns.length : Int)) = true := by simp; omega
    clear h1
    go_wp2_with fail
    go_ret
    exact ⟨ret_int (by rw [HRR.out]; rfl), HV.out.2.2.2.1⟩
  by_cases h2 : m.es.length = a.es.length
  case neg =>
    have HRR := Lib.hid (show R = 20 by rw [HR1.out, if_pos (.inr h2)])
    have t1 : ((m.ns.length : Int) != (a.ns.length : Int)) = false := by simp; omega
    have t2 : ((m.es.length : Int) != (a.es.length : Int)) = true := by simp; omega
    clear h1 h2
    go_wp2_with fail
    go_ret
    exact ⟨ret_int (by rw [HRR.out]; rfl), HV.out.2.2.2.1⟩
  have HR2 := Lib.hid (show R = if fstN (mnAt a b m) 0 a.ns.length ≠ 0 then fstN (mnAt a b m) 0 a.ns.length else fstN (meAt a b m) 0 a.es.length by rw [HR1.out, if_neg (fun h => h.elim (fun h => h h1) (fun h => h h2))])
  have t1 : ((m.ns.length : Int) != (a.ns.length : Int)) = false := by simp; omega
  have t2 : ((m.es.length : Int) != (a.es.length : Int)) = false := by simp; omega
  have HL1 := Lib.hid h1
  have HL2 := Lib.hid h2
  have HVA := Lib.hid (HVE.out (HCV.out rfl))
  obtain ⟨n40, e80, _⟩ := HCZ.out (HCV.out rfl)
  clear HR1 HCZ HCV HVE h1 h2
  have HHIT := Lib.hid (fun k (h : k < a.ns.length) hf => fstN_hit (f := mnAt a b m) h hf)
  have HPASS := Lib.hid (fun k (h : k < a.ns.length) hf => fstN_pass (f := mnAt a b m) h hf)
  have HEND := Lib.hid (fun k (h : a.ns.length ≤ k) => fstN_end (f := mnAt a b m) h)
  have HF : Hid (∀ k, mnAt a b m k = if idxB (m.ns.getD k 0) b.ns.length = false then 6 else if b.ns.getD (m.ns.getD k 0).toNat 0 ≠ a.ns.getD k 0 then 13 else 0) := Lib.hid fun k => rfl
  have HS0 : Hid (fstN (mnAt a b m) 0 a.ns.length = fstN (mnAt a b m) 0 (a.ns.length - 0)) := Lib.hid rfl
  obtain ⟨S, hS⟩ : ∃ S, S = fstN (mnAt a b m) 0 a.ns.length := ⟨_, rfl⟩
  rw [← hS] at HR2 HS0
  clear hS
  generalize mnAt a b m = f at *
  go_wp2_with fail
  clear t1 t2 p1 p2 p3 p4 p5 p6
  go_loopw [37] (fun v wr => ∃ k q : Nat, k ≤ m.ns.length ∧ v = .int .i64 (k : Int) ∧ S = fstN f k (a.ns.length - k) ∧ wr = w1.drewN q) (fun v _ => m.ns.length - (intOf v).toNat)
  case atStart => exact ⟨0, 0, Nat.zero_le _, rfl, HS0.out, rfl⟩
  case round =>
    obtain ⟨k, q, hk, rfl, hSk, rfl⟩ := hrel
    have HSK := Lib.hid hSk
    clear hSk
    have hp := HV.out.cells
    rw [HBW.out] at hp
    obtain ⟨p1, p2, p3, p4, p5, p6⟩ := hp
    by_cases hlt : k < m.ns.length
    · have hla : k < a.ns.length := by rw [← HL1.out]; exact hlt
      obtain ⟨g1, o1, rfl, hg1, hc1⟩ := Ints.cells (HM.out.below HV.out.2.2.2.1) hlt
      obtain ⟨g2, o2, rfl, hg2, hc2⟩ := Ints.cells (HT.out.ns.below HV.out.2.2.2.1) hla
      have c1 := hc1 k hlt
      have c2 := hc2 k hla
      have HFK := Lib.hid (HF.out k)
      have HCI := Lib.hid (fun u => isIndexM_any (m.ns.getD k 0) b.ns.length u)
      by_cases hi : idxB (m.ns.getD k 0) b.ns.length = true
      case neg =>
        have hi' : idxB (m.ns.getD k 0) b.ns.length = false := by simpa using hi
        have hf6 : f k = 6 := by rw [HFK.out, if_pos hi']
        have HRR := Lib.hid (show R = 6 by rw [HR2.out, HSK.out, HHIT.out k hla (by omega), hf6]; rfl)
        rw [hi'] at HCI
        clear hi hi' hf6 hc1 hc2 hla
        generalize m.ns.getD k 0 = x at *
        go_wp2_with fail
        refine (HCI.out _).mono ?_
        rintro e w' ⟨rfl, rfl⟩
        go_wp2_with fail
        go_ret
        exact ⟨ret_int (by rw [HRR.out]; rfl), below_draws HV.out.2.2.2.1 _⟩
      have hx := idxB_iff.1 hi
      obtain ⟨j, hj⟩ : ∃ j : Nat, m.ns.getD k 0 = (j : Int) := ⟨(m.ns.getD k 0).toNat, by omega⟩
      rw [hi] at HCI
      rw [hj] at c1 HCI hx hi HFK
      rw [Int.toNat_natCast] at HFK
      have hjl : j < b.ns.length := by omega
      obtain ⟨g3, o3, rfl, hg3, hc3⟩ := Ints.cells (HU.out.ns.below HV.out.2.2.2.1) hjl
      have c3 := hc3 j hjl
      have k0 : (0 : Int) ≤ (k : Int) := by omega
      have k1 : (k : Int) < (m.ns.length : Int) := by omega
      have k1' : (k : Int) < (a.ns.length : Int) := by omega
      have k2 : ((k : Int)).toNat = k := by omega
      have j0 : (0 : Int) ≤ (j : Int) := by omega
      have j1 : (j : Int) < (b.ns.length : Int) := by omega
      have j2 : ((j : Int)).toNat = j := by omega
      have HLA := Lib.hid hla
      have HI := Lib.hid hi
      clear hc1 hc2 hc3 hla hx hj hi
      by_cases he : b.ns.getD j 0 = a.ns.getD k 0
      case neg =>
        have hf : f k = 13 := by rw [HFK.out, if_neg (by rw [HI.out]; simp), if_pos he]
        have HRR := Lib.hid (show R = 13 by rw [HR2.out, HSK.out, HHIT.out k HLA.out (by omega), hf]; rfl)
        have t : (b.ns.getD j 0 != a.ns.getD k 0) = true := bne_iff_ne.2 he
        clear hf he
        generalize b.ns.getD j 0 = y at *
        generalize a.ns.getD k 0 = y2 at *
        go_wp2_with fail
        refine (HCI.out _).mono ?_
        rintro e w' ⟨rfl, rfl⟩
        go_wp2_with fail
        go_quiet (fail)
        go_wp2_with fail
        go_ret
        exact ⟨ret_int (by rw [HRR.out]; rfl), below_draws (below_draws HV.out.2.2.2.1 _) _⟩
      have hf : f k = 0 := by rw [HFK.out, if_neg (by rw [HI.out]; simp), if_neg (fun h => h he)]
      have HE := Lib.hid (show S = fstN f (k + 1) (a.ns.length - (k + 1)) by rw [HSK.out, HPASS.out k HLA.out hf])
      have t : (b.ns.getD j 0 != a.ns.getD k 0) = false := by rw [he]; exact bne_self_eq_false _
      clear hf he
      generalize b.ns.getD j 0 = y at *
      generalize a.ns.getD k 0 = y2 at *
      have HM2 : Hid (m.ns.length - ((k : Int) + 1).toNat < m.ns.length - ((k : Int)).toNat) := Lib.hid (by omega)
      go_wp2_with fail
      refine (HCI.out _).mono ?_
      rintro e w' ⟨rfl, rfl⟩
      go_wp2_with fail
      go_quiet (fail)
      go_wp2_with fail
      go_roundw
      case rel => exact ⟨k + 1, _, by omega, by go_num, HE.out, rfl⟩
      case measure => exact HM2.out
    · obtain rfl : k = m.ns.length := by omega
      have hS0 : S = 0 := by rw [HSK.out]; exact HEND.out _ (by rw [HL1.out]; exact Nat.le_refl _)
      have HR3 := Lib.hid (show R = fstN (meAt a b m) 0 a.es.length by rw [HR2.out, hS0]; simp)
      have HVD : Hid (VS B (.slice An a.ns.length cn) (.slice Ae a.es.length ce) (.slice Bn b.ns.length dn) (.slice Be b.es.length de) (.slice Mn m.ns.length mn) (.slice Me m.es.length me) w (w1.drewN q)) := Lib.hid (HV.out.up (below_draws (Below.refl _ _) q))
      have HB0 := Lib.hid HBW.out
      clear HR2 HSK HHIT HPASS HEND HF HS0 hS0 hlt hk HV
      have HHIT := Lib.hid (fun k (h : k < a.es.length) hf => fstN_hit (f := meAt a b m) h hf)
      have HPASS := Lib.hid (fun k (h : k < a.es.length) hf => fstN_pass (f := meAt a b m) h hf)
      have HEND := Lib.hid (fun k (h : a.es.length ≤ k) => fstN_end (f := meAt a b m) h)
      have HF : Hid (∀ k, meAt a b m k = if idxB (m.es.getD k 0) b.es.length = false then 6
          else if (a.es.getD k default).ty ≠ (b.es.getD (m.es.getD k 0).toNat default).ty then 13
          else if m.ns.getD (a.es.getD k default).fr.toNat 0 ≠ (b.es.getD (m.es.getD k 0).toNat default).fr ∨ m.ns.getD (a.es.getD k default).tq.toNat 0 ≠ (b.es.getD (m.es.getD k 0).toNat default).tq then 11 else 0) := Lib.hid fun k => rfl
      have HS0 : Hid (R = fstN (meAt a b m) 0 (a.es.length - 0)) := Lib.hid HR3.out
      clear HR3
      generalize meAt a b m = f at *
      go_wp2_with fail
      clear p1 p2 p3 p4 p5 p6
      go_loopw [65] (fun v wr => ∃ k : Nat, k ≤ m.es.length ∧ v = .int .i64 (k : Int) ∧ R = fstN f k (a.es.length - k) ∧ VS B (.slice An a.ns.length cn) (.slice Ae a.es.length ce) (.slice Bn b.ns.length dn) (.slice Be b.es.length de) (.slice Mn m.ns.length mn) (.slice Me m.es.length me) w wr) (fun v _ => m.es.length - (intOf v).toNat)
      case atStart => exact ⟨0, Nat.zero_le _, rfl, HS0.out, HVD.out⟩
      case round =>
        obtain ⟨k, hk, rfl, hRk, hV⟩ := hrel
        have HRK := Lib.hid hRk
        have HV := Lib.hid hV
        have hp := hV.cells
        have hbel := hV.2.2.2.1
        rw [HB0.out] at hp
        obtain ⟨p1, p2, p3, p4, p5, p6⟩ := hp
        clear hRk HS0 HVD hV
        by_cases hlt : k < m.es.length
        · have hla : k < a.es.length := by rw [← HL2.out]; exact hlt
          obtain ⟨g1, o1, rfl, hg1, hc1⟩ := Ints.cells (HN.out.below hbel) hlt
          obtain ⟨g2, o2, rfl, hg2, hc2⟩ := Eds.cells (HT.out.es.below hbel) hla
          have c1 := hc1 k hlt
          obtain ⟨d1, d2, d3⟩ := hc2 k hla
          have HFK := Lib.hid (HF.out k)
          have HCI := Lib.hid (fun u => isIndexM_any (m.es.getD k 0) b.es.length u)
          have hva := HVA.out k hla
          have HME := Lib.hid (fun (u : World) (hu : Below w.heap.size w u) => moveEnds_any (a.es.getD k default) m.ns Mn mn u w.heap.size (HM.out.below hu) (by have := HL1.out; omega) (by have := HL1.out; omega))
          by_cases hi : idxB (m.es.getD k 0) b.es.length = true
          case neg =>
            have hi' : idxB (m.es.getD k 0) b.es.length = false := by simpa using hi
            have hf6 : f k = 6 := by rw [HFK.out, if_pos hi']
            have HRR := Lib.hid (show R = 6 by rw [HRK.out, HHIT.out k hla (by omega), hf6])
            rw [hi'] at HCI
            clear hi hi' hf6 hc1 hc2 hla hbel hva
            generalize m.es.getD k 0 = x at *
            go_wp2_with fail
            refine (HCI.out _).mono ?_
            rintro e w' ⟨rfl, rfl⟩
            go_wp2_with fail
            go_ret
            exact ⟨ret_int (by rw [HRR.out]; rfl), HV.out.2.2.2.1⟩
          have hx := idxB_iff.1 hi
          obtain ⟨j, hj⟩ : ∃ j : Nat, m.es.getD k 0 = (j : Int) := ⟨(m.es.getD k 0).toNat, by omega⟩
          rw [hi] at HCI
          rw [hj] at c1 HCI hx hi HFK
          rw [Int.toNat_natCast] at HFK
          have hjl : j < b.es.length := by omega
          obtain ⟨g3, o3, rfl, hg3, hc3⟩ := Eds.cells (HU.out.es.below hbel) hjl
          obtain ⟨e1, e2, e3⟩ := hc3 j hjl
          have k0 : (0 : Int) ≤ (k : Int) := by omega
          have k1 : (k : Int) < (m.es.length : Int) := by omega
          have k1' : (k : Int) < (a.es.length : Int) := by omega
          have k2 : ((k : Int)).toNat = k := by omega
          have j0 : (0 : Int) ≤ (j : Int) := by omega
          have j1 : (j : Int) < (b.es.length : Int) := by omega
          have j2 : ((j : Int)).toNat = j := by omega
          have HLA := Lib.hid hla
          have HI := Lib.hid hi
          clear hc1 hc2 hc3 hla hx hj hi hva
          generalize a.es.getD k default = xa at *
          generalize b.es.getD j default = xb at *
          obtain ⟨ty, fr, tt⟩ := xa
          obtain ⟨ty2, fr2, tt2⟩ := xb
          dsimp only at *
          by_cases he : ty = ty2
          case neg =>
            have hf : f k = 13 := by rw [HFK.out, if_neg (by rw [HI.out]; simp), if_pos he]
            have HRR := Lib.hid (show R = 13 by rw [HRK.out, HHIT.out k HLA.out (by omega), hf])
            have t : (ty2 != ty) = true := bne_iff_ne.2 fun h => he h.symm
            clear hf he hbel
            go_wp2_with fail
            refine (HCI.out _).mono ?_
            rintro e w' ⟨rfl, rfl⟩
            go_wp2_with fail
            go_quiet (fail)
            go_wp2_with fail
            go_ret
            exact ⟨ret_int (by rw [HRR.out]; rfl), below_draws HV.out.2.2.2.1 _⟩
          subst he
          have t : (ty != ty) = false := bne_self_eq_false _
          go_wp2_with fail
          refine (HCI.out _).mono ?_
          rintro e w' ⟨rfl, rfl⟩
          go_wp2_with fail
          go_quiet (fail)
          go_wp2_with fail
          clear p1 p2 p3 p4 p5 p6
          generalize hwx : wr.drewN _ = wx
          have hbx : Below wr.heap.size wr wx := by rw [← hwx]; exact below_draws (Below.refl _ _) _
          have HBX : Hid (Below w.heap.size w wx.drew) := Lib.hid (hbel.trans ((hbx.drew).mono (hbel.size)))
          have hVX := HV.out.up hbx.drew
          have HVX := Lib.hid hVX
          have hp := hVX.cells
          rw [HB0.out] at hp
          obtain ⟨p1, p2, p3, p4, p5, p6⟩ := hp
          have cx : ∀ {g o : Nat} {v : Value}, wr.cell? ⟨g, o, none⟩ = some v → wx.drew.cell? ⟨g, o, none⟩ = some v := fun {g o v} h => (hbx.drew.cell (p := ⟨g, o, none⟩) (World.block_lt_of_cell? wr _ h)).trans h
          have HS : Hid ((fun u : World => u.cell? ⟨w.heap.size + 1, 1, none⟩ = some (.slice (some ⟨g3, o3, none⟩) b.es.length de) ∧ u.cell? ⟨g3, o3 + j * 3, none⟩ = some (.int .i64 ty) ∧ u.cell? ⟨g3, o3 + j * 3 + 1, none⟩ = some (.int .i64 fr2) ∧ u.cell? ⟨g3, o3 + j * 3 + 2, none⟩ = some (.int .i64 tt2) ∧
            u.cell? ⟨w.heap.size, 1, none⟩ = some (.slice (some ⟨g2, o2, none⟩) a.es.length ce) ∧ u.cell? ⟨g2, o2 + k * 3, none⟩ = some (.int .i64 ty) ∧ u.cell? ⟨g2, o2 + k * 3 + 1, none⟩ = some (.int .i64 fr) ∧ u.cell? ⟨g2, o2 + k * 3 + 2, none⟩ = some (.int .i64 tt) ∧
            u.cell? ⟨w.heap.size + 1 + 1, 0, none⟩ = some (.slice Mn m.ns.length mn)) wx.drew) := Lib.hid ⟨p4, cx e1, cx e2, cx e3, p2, cx d1, cx d2, cx d3, p5⟩
          have HMX := Lib.hid (HME.out wx.drew HBX.out)
          have HSK : Hid (∀ w3, Below wx.drew.heap.size wx.drew w3 → (fun u : World => u.cell? ⟨w.heap.size + 1, 1, none⟩ = some (.slice (some ⟨g3, o3, none⟩) b.es.length de) ∧ u.cell? ⟨g3, o3 + j * 3, none⟩ = some (.int .i64 ty) ∧ u.cell? ⟨g3, o3 + j * 3 + 1, none⟩ = some (.int .i64 fr2) ∧ u.cell? ⟨g3, o3 + j * 3 + 2, none⟩ = some (.int .i64 tt2) ∧
            u.cell? ⟨w.heap.size, 1, none⟩ = some (.slice (some ⟨g2, o2, none⟩) a.es.length ce) ∧ u.cell? ⟨g2, o2 + k * 3, none⟩ = some (.int .i64 ty) ∧ u.cell? ⟨g2, o2 + k * 3 + 1, none⟩ = some (.int .i64 fr) ∧ u.cell? ⟨g2, o2 + k * 3 + 2, none⟩ = some (.int .i64 tt) ∧
            u.cell? ⟨w.heap.size + 1 + 1, 0, none⟩ = some (.slice Mn m.ns.length mn)) w3) := Lib.hid fun w3 hb => by
            have up : ∀ {g o : Nat} {v : Value}, wx.drew.cell? ⟨g, o, none⟩ = some v → w3.cell? ⟨g, o, none⟩ = some v := fun {g o v} h => (hb.cell (p := ⟨g, o, none⟩) (World.block_lt_of_cell? _ _ h)).trans h
            exact ⟨up p4, up (cx e1), up (cx e2), up (cx e3), up p2, up (cx d1), up (cx d2), up (cx d3), up p5⟩
          have HM2 : Hid (m.es.length - ((k : Int) + 1).toNat < m.es.length - ((k : Int)).toNat) := Lib.hid (by omega)
          clear hwx hbx hVX p1 p2 p3 p4 p5 p6 c1 d1 d2 d3 e1 e2 e3 hbel HME t cx
          generalize m.ns.getD fr.toNat 0 = y1 at *
          generalize m.ns.getD tt.toNat 0 = y2 at *
          refine wp_region_noPanic ?_
          refine wp_region_held_drew (S := (fun u : World => u.cell? ⟨w.heap.size + 1, 1, none⟩ = some (.slice (some ⟨g3, o3, none⟩) b.es.length de) ∧ u.cell? ⟨g3, o3 + j * 3, none⟩ = some (.int .i64 ty) ∧ u.cell? ⟨g3, o3 + j * 3 + 1, none⟩ = some (.int .i64 fr2) ∧ u.cell? ⟨g3, o3 + j * 3 + 2, none⟩ = some (.int .i64 tt2) ∧ u.cell? ⟨w.heap.size, 1, none⟩ = some (.slice (some ⟨g2, o2, none⟩) a.es.length ce) ∧ u.cell? ⟨g2, o2 + k * 3, none⟩ = some (.int .i64 ty) ∧ u.cell? ⟨g2, o2 + k * 3 + 1, none⟩ = some (.int .i64 fr) ∧ u.cell? ⟨g2, o2 + k * 3 + 2, none⟩ = some (.int .i64 tt) ∧ u.cell? ⟨w.heap.size + 1 + 1, 0, none⟩ = some (.slice Mn m.ns.length mn))) (by kernel_rfl) (HS.out) (fun hHeld => ?_)
          refine wpAnyH_take (i := 0) (v := ?_) (oper_at (r := _) rfl) (by kernel_rfl) (by kernel_rfl) (by kernel_rfl) (fun _ _ _ h => h) (Or.inl ⟨by rfl, ?_⟩) (by assumption) ?_
          rotate_left
          · intro w hSw; try dsimp only at hSw
            go_simp
            try with_reducible rfl
          try simp only [Act.put, List.setIfInBounds_toArray, List.set_cons_zero, List.set_cons_succ]
          refine wpAnyH_take (i := 1) (v := ?_) (oper_at (r := _) rfl) (by kernel_rfl) (by kernel_rfl) (by kernel_rfl) (fun _ _ _ h => h) (Or.inl ⟨by rfl, ?_⟩) (by assumption) ?_
          rotate_left
          · intro w hSw; try dsimp only at hSw
            go_simp
            try with_reducible rfl
          try simp only [Act.put, List.setIfInBounds_toArray, List.set_cons_zero, List.set_cons_succ]
          refine wpAnyH_take (i := 2) (v := ?_) (oper_at (r := _) rfl) (by kernel_rfl) (by kernel_rfl) (by kernel_rfl) (fun _ _ _ h => h) (Or.inl ⟨by rfl, ?_⟩) (by assumption) ?_
          rotate_left
          · intro w hSw; try dsimp only at hSw
            go_simp
            try with_reducible rfl
          try simp only [Act.put, List.setIfInBounds_toArray, List.set_cons_zero, List.set_cons_succ]
          refine wpAnyH_take (i := 3) (v := ?_) (oper_at (r := _) rfl) (by kernel_rfl) (by kernel_rfl) (by kernel_rfl) (fun _ _ _ h => h) (Or.inl ⟨by rfl, ?_⟩) (by assumption) ?_
          rotate_left
          · intro w hSw; try dsimp only at hSw
            go_simp
            try with_reducible rfl
          try simp only [Act.put, List.setIfInBounds_toArray, List.set_cons_zero, List.set_cons_succ]
          refine wpAnyH_take (i := 4) (v := ?_) (oper_at (r := _) rfl) (by kernel_rfl) (by kernel_rfl) (by kernel_rfl) (fun _ _ _ h => h) (Or.inl ⟨by rfl, ?_⟩) (by assumption) ?_
          rotate_left
          · intro w hSw; try dsimp only at hSw
            go_simp
            try with_reducible rfl
          try simp only [Act.put, List.setIfInBounds_toArray, List.set_cons_zero, List.set_cons_succ]
          refine wpAnyH_take (i := 5) (v := ?_) (oper_at (r := _) rfl) (by kernel_rfl) (by kernel_rfl) (by kernel_rfl) (fun _ _ _ h => h) (Or.inl ⟨by rfl, ?_⟩) (by assumption) ?_
          rotate_left
          · intro w hSw; try dsimp only at hSw
            go_simp
            try with_reducible rfl
          try simp only [Act.put, List.setIfInBounds_toArray, List.set_cons_zero, List.set_cons_succ]
          refine wpAnyH_take (i := 6) (v := ?_) (oper_at (r := _) rfl) (by kernel_rfl) (by kernel_rfl) (by kernel_rfl) (fun _ _ _ h => h) (Or.inl ⟨by rfl, ?_⟩) (by assumption) ?_
          rotate_left
          · intro w hSw; try dsimp only at hSw
            go_simp
            try with_reducible rfl
          try simp only [Act.put, List.setIfInBounds_toArray, List.set_cons_zero, List.set_cons_succ]
          refine wpAnyH_take (i := 7) (v := ?_) (oper_at (r := _) rfl) (by kernel_rfl) (by kernel_rfl) (by kernel_rfl) (fun _ _ _ h => h) (Or.inl ⟨by rfl, ?_⟩) (by assumption) ?_
          rotate_left
          · intro w hSw; try dsimp only at hSw
            go_simp
            try with_reducible rfl
          try simp only [Act.put, List.setIfInBounds_toArray, List.set_cons_zero, List.set_cons_succ]
          refine wpAnyH_take (i := 8) (v := ?_) (oper_at (r := _) rfl) (by kernel_rfl) (by kernel_rfl) (by kernel_rfl) (fun _ _ _ h => h) (Or.inl ⟨by rfl, ?_⟩) (by assumption) ?_
          rotate_left
          · intro w hSw; try dsimp only at hSw
            go_simp
            try with_reducible rfl
          try simp only [Act.put, List.setIfInBounds_toArray, List.set_cons_zero, List.set_cons_succ]
          refine wpAnyH_take (i := 9) (v := ?_) (oper_at (r := _) rfl) (by kernel_rfl) (by kernel_rfl) (by kernel_rfl) (fun _ _ _ h => h) (Or.inl ⟨by rfl, ?_⟩) (by assumption) ?_
          rotate_left
          · intro w hSw; try dsimp only at hSw
            go_simp
            try with_reducible rfl
          try simp only [Act.put, List.setIfInBounds_toArray, List.set_cons_zero, List.set_cons_succ]
          refine wpAnyH_take (i := 10) (v := ?_) (oper_at (r := _) rfl) (by kernel_rfl) (by kernel_rfl) (by kernel_rfl) (fun _ _ _ h => h) (Or.inl ⟨by rfl, ?_⟩) (by assumption) ?_
          rotate_left
          · intro w hSw; try dsimp only at hSw
            go_simp
            try with_reducible rfl
          try simp only [Act.put, List.setIfInBounds_toArray, List.set_cons_zero, List.set_cons_succ]
          refine wpAnyH_take (i := 11) (v := ?_) (oper_at (r := _) rfl) (by kernel_rfl) (by kernel_rfl) (by kernel_rfl) (fun _ _ _ h => h) (Or.inl ⟨by rfl, ?_⟩) (by assumption) ?_
          rotate_left
          · intro w hSw; try dsimp only at hSw
            go_simp
            try with_reducible rfl
          try simp only [Act.put, List.setIfInBounds_toArray, List.set_cons_zero, List.set_cons_succ]
          refine wpAnyH_ready (rs := [12]) (by kernel_rfl) (by simp) ?_
          refine AllReadyH.cons (oper_at (r := _) rfl) (fun K hK => ?_) AllReadyH.nil
          go_simp
          refine HMX.out.mono ?_
          rintro e w3 ⟨rfl, hb3⟩
          have HS3 := Lib.hid (HSK.out w3 hb3)
          have HV3 := Lib.hid (HVX.out.up hb3)
          clear hb3
          go_wp2_with fail
          refine hK.out _ _ (HS3.out) (fun _ => ?_)
          clear hK K
          try simp only [Act.put, List.setIfInBounds_toArray, List.set_cons_zero, List.set_cons_succ]
          by_cases hy : fr2 = y1
          · subst hy
            by_cases hy2 : tt2 = y2
            · subst hy2
              have hf : f k = 0 := by rw [HFK.out, if_neg (by rw [HI.out]; simp), if_neg (fun h => h rfl), if_neg (by simp)]
              have HE := Lib.hid (show R = fstN f (k + 1) (a.es.length - (k + 1)) by rw [HRK.out, HPASS.out k HLA.out hf])
              clear hf
              refine wpAnyH_take (i := 13) (v := ?_) (oper_at (r := _) rfl) (by kernel_rfl) (by kernel_rfl) (by kernel_rfl) (fun _ _ _ h => h) (Or.inl ⟨by rfl, ?_⟩) (by assumption) ?_
              rotate_left
              · intro w hSw; try dsimp only at hSw
                go_simp
                try with_reducible rfl
              try simp only [Act.put, List.setIfInBounds_toArray, List.set_cons_zero, List.set_cons_succ]
              refine wpAnyH_take (i := 14) (v := ?_) (oper_at (r := _) rfl) (by kernel_rfl) (by kernel_rfl) (by kernel_rfl) (fun _ _ _ h => h) (Or.inl ⟨by rfl, ?_⟩) (by assumption) ?_
              rotate_left
              · intro w hSw; try dsimp only at hSw
                go_simp
                try with_reducible rfl
              try simp only [Act.put, List.setIfInBounds_toArray, List.set_cons_zero, List.set_cons_succ]
              refine wpAnyH_done (by kernel_rfl) ?_ _
              refine NoPanic.normal ?_
              go_wp2_with fail
              go_roundw
              case rel => exact ⟨k + 1, by omega, by go_num, HE.out, HV3.out⟩
              case measure => exact HM2.out
            · have hf : f k = 11 := by rw [HFK.out, if_neg (by rw [HI.out]; simp), if_neg (fun h => h rfl), if_pos (.inr fun h => hy2 h.symm)]
              have HRR := Lib.hid (show R = 11 by rw [HRK.out, HHIT.out k HLA.out (by omega), hf])
              have t : (tt2 == y2) = false := ne_beq hy2
              clear hf
              refine wpAnyH_take (i := 13) (v := ?_) (oper_at (r := _) rfl) (by kernel_rfl) (by kernel_rfl) (by kernel_rfl) (fun _ _ _ h => h) (Or.inl ⟨by rfl, ?_⟩) (by assumption) ?_
              rotate_left
              · intro w hSw; try dsimp only at hSw
                go_simp
                try with_reducible rfl
              try simp only [Act.put, List.setIfInBounds_toArray, List.set_cons_zero, List.set_cons_succ]
              refine wpAnyH_take (i := 14) (v := ?_) (oper_at (r := _) rfl) (by kernel_rfl) (by kernel_rfl) (by kernel_rfl) (fun _ _ _ h => h) (Or.inl ⟨by rfl, ?_⟩) (by assumption) ?_
              rotate_left
              · intro w hSw; try dsimp only at hSw
                go_simp
                try with_reducible rfl
              try simp only [Act.put, List.setIfInBounds_toArray, List.set_cons_zero, List.set_cons_succ]
              refine wpAnyH_done (by kernel_rfl) ?_ _
              refine NoPanic.normal ?_
              go_wp2_with fail
              go_ret
              exact ⟨ret_int (by rw [HRR.out]; rfl), HV3.out.2.2.2.1⟩
          · have hf : f k = 11 := by rw [HFK.out, if_neg (by rw [HI.out]; simp), if_neg (fun h => h rfl), if_pos (.inl fun h => hy h.symm)]
            have HRR := Lib.hid (show R = 11 by rw [HRK.out, HHIT.out k HLA.out (by omega), hf])
            have t : (fr2 == y1) = false := ne_beq hy
            clear hf
            refine wpAnyH_take (i := 13) (v := ?_) (oper_at (r := _) rfl) (by kernel_rfl) (by kernel_rfl) (by kernel_rfl) (fun _ _ _ h => h) (Or.inl ⟨by rfl, ?_⟩) (by assumption) ?_
            rotate_left
            · intro w hSw; try dsimp only at hSw
              go_simp
              try with_reducible rfl
            try simp only [Act.put, List.setIfInBounds_toArray, List.set_cons_zero, List.set_cons_succ]
            refine wpAnyH_take (i := 14) (v := ?_) (oper_at (r := _) rfl) (by kernel_rfl) (by kernel_rfl) (by kernel_rfl) (fun _ _ _ h => h) (Or.inl ⟨by rfl, ?_⟩) (by assumption) ?_
            rotate_left
            · intro w hSw; try dsimp only at hSw
              go_simp
              try with_reducible rfl
            try simp only [Act.put, List.setIfInBounds_toArray, List.set_cons_zero, List.set_cons_succ]
            refine wpAnyH_done (by kernel_rfl) ?_ _
            refine NoPanic.normal ?_
            go_wp2_with fail
            go_ret
            exact ⟨ret_int (by rw [HRR.out]; rfl), HV3.out.2.2.2.1⟩
        · obtain rfl : k = m.es.length := by omega
          have HRR := Lib.hid (show R = 0 by rw [HRK.out]; exact HEND.out _ (by rw [HL2.out]; exact Nat.le_refl _))
          clear hbel
          go_wp2_with fail
          go_ret
          exact ⟨ret_int (by rw [HRR.out]; rfl), HV.out.2.2.2.1⟩

end Go.Proofs.YtaeelanbkdkppaaDoor

/-
  Graphs: Incident, of the program and the reference.
-/
namespace Go.Proofs.YtaeelanbkdkppaaDoor
open Go.RowKit

/-- two rows lie in two blocks -/
def Ap (a b : Value) : Prop := ∀ q, a.ownBlock = some q → b.ownBlock ≠ some q
theorem Ap.symm {a b : Value} (h : Ap a b) : Ap b a := fun q h1 h2 => h q h2 h1
theorem Ap.kept {a b : Value} (h : Ap a b) : b.ownBlock = none ∨ b.ownBlock ≠ a.ownBlock := by
  cases e : b.ownBlock with
  | none => exact .inl rfl
  | some q => exact .inr fun e2 => h q e2.symm e
end Go.Proofs.YtaeelanbkdkppaaDoor

/-
  Rows that grow beside one another: append of many, and where the new row lies; slices.Sort of a row.
-/
namespace Go.Proofs.YtaeelanbkdkppaaDoor
open Go.RowKit

/-! slices.Sort -/
def srt (xs : List Int) : List Int := xs.mergeSort fun x y => decide (x ≤ y)
theorem srt_len (xs : List Int) : (srt xs).length = xs.length := List.length_mergeSort _
theorem sort_any (base : Nat) (v : Value) (xs : List Int) (w : World) (h : OwnI w base v xs) (hl : xs.length ≤ 1000000) :
    Calls Tryd.prog 75 #[v] w fun e w' => e = .returned (.tuple #[]) ∧ OwnI w' base v (srt xs) ∧ w.grownBy w' v.ownBlock := by
  have hc : cellsE EInt xs = xs.map (Value.int .i64) := cellsE_int xs
  have hc2 : cellsE EInt (srt xs) = (srt xs).map (Value.int .i64) := cellsE_int _
  have h0 := h
  rcases h0.2 with ⟨e, hn⟩ | ⟨g, cap, cur, e, hbg, hg, h1, h2, h3, h4⟩
  · have hx : xs = [] := List.eq_nil_of_length_eq_zero hn
    subst hx e
    refine (Tryd.slices_Sort_int_none none 0 w).mono ?_
    rintro e w' ⟨rfl, rfl⟩
    exact ⟨rfl, by rw [show srt [] = [] from List.mergeSort_nil]; exact h, grown_refl _ _⟩
  · subst e
    have hH := holds_of_blockI (ss := xs) hg (by rw [← hc, ← h4, show EInt.size = 1 from rfl, Nat.mul_one])
    refine (Tryd.slices_Sort_int g 0 cap xs w hH (Array.getElem?_eq_some_iff.1 hg).1 (by omega)).mono ?_
    rintro e w' ⟨rfl, n, os, rfl⟩
    refine ⟨rfl, ?_, grownBy_sortedI _⟩
    unfold OwnI OwnE
    rw [hc2, srt_len]
    exact ownsRow_sortedI (srt_len xs) hbg hg h1 h2 h3

end Go.Proofs.YtaeelanbkdkppaaDoor

/-
  countImages: the number of different images.
-/
namespace Go.Proofs.YtaeelanbkdkppaaDoor
open Go.RowKit Go.Shelf

attribute [local go_sem] Oper.semAt_some

/-- what slices.Values hands over -/
def RVal (x : Int) (G : Blks) (_ : World) (vs : Array Value) : Prop := (∀ b, ¬ G b) ∧ vs = #[.int .i64 x]
theorem take_next {xs : List Int} {k : Nat} (h : k < xs.length) : xs.take k ++ [xs.getD k 0] = xs.take (k + 1) := by
  rw [List.take_add_one, List.getElem?_eq_getElem h, List.getD_eq_getElem?_getD, List.getElem?_eq_getElem h]; rfl

set_option maxRecDepth 100000 in
set_option maxHeartbeats 2000000 in
theorem values_visits (xs : List Int) (hl : xs.length ≤ 1000) (vb : Nat) (A : Option Addr) (c : Nat) (w : World) (hb : Boxed w vb 22 (.slice A xs.length c)) (hA : Ints w w.heap.size A xs) :
    Visits Tryd.prog 76 #[] #[.pointer (some ⟨vb, 0, none⟩)] xs RVal (fun b => b = vb ∨ ∃ o, xs ≠ [] ∧ A = some ⟨b, o, none⟩) w := by
  intro l J Jx H W hW hJ hJx hO hY h0
  have HY := Lib.hid hY
  have HA := Lib.hid (Reads.up hA hW)
  have HO := Lib.hid hO
  have HLB : Hid (∀ b o, xs ≠ [] → A = some ⟨b, o, none⟩ → b < W.heap.size) := Lib.hid fun b o hn e => by
    rcases Reads.up hA hW with h | ⟨b2, o2, e2, hb2, _⟩
    · exact absurd h hn
    · rw [e] at e2; injection e2 with e2; injection e2 with e2; omega
  have c1 := (show Boxed W vb 22 (.slice A xs.length c) from heap_up hW hb).cell
  have hl0 : (xs.length : Int) ≤ 1000 := by omega
  clear hY hA hO hb hW
  refine (callsIn_wide (n := 3)).1 ?_
  refine callsIn_of_wp Tryd.func76 rfl trivial ?_ rfl
  simp only [Tryd.ntmps76, List.size_toArray, List.length_cons, List.length_nil, Nat.reduceAdd, Nat.reduceSub, Array.replicate_succ, Array.replicate_zero, List.push_toArray, List.append_toArray, List.nil_append, List.cons_append]
  gi_wp2
  clear c1
  gi_loopw [7] (fun v wr => ∃ (k : Nat) (H' : Blks), k ≤ xs.length ∧ v = .int .i64 (k : Int) ∧ J (xs.take k) H' wr ∧ Keeps H W wr ∧ ∀ b, H' b → H b ∨ W.heap.size ≤ b)
    (fun v _ => xs.length - (intOf v).toNat)
  case atStart => exact ⟨0, H, Nat.zero_le _, rfl, h0, Keeps.refl _ _, fun b h => .inl h⟩
  case round =>
    obtain ⟨k, H', hk, rfl, hj, hkp, hg⟩ := hrel
    by_cases hlt : k < xs.length
    · obtain ⟨b, off, hAe, hbl, hc⟩ := Ints.cells HA.out hlt
      have ck : wr.cell? ⟨b, off + k, none⟩ = some (.int .i64 (xs.getD k 0)) := (cell_heap (p := ⟨b, off + k, none⟩) (hkp.block b hbl (HO.out b (.inr ⟨off, (fun e => by rw [e] at hlt; simp at hlt), hAe⟩)))).trans (hc k hlt)
      obtain ⟨fn, tmps, assign, body, hy, hR⟩ := YieldAt.anyDepth rfl 2 (HY.out (xs.take k) (xs.getD k 0) H' wr (fun _ => False) #[.int .i64 (xs.getD k 0)] hj (by rw [take_next hlt]; exact List.take_prefix _ _) ⟨fun _ h => h, rfl⟩ (fun _ h => h.elim))
      rw [take_next hlt] at hR
      have HK := Lib.hid hkp
      have HG := Lib.hid hg
      have HLT := Lib.hid hlt
      have k0 : (0 : Int) ≤ (k : Int) := by omega
      have k1 : (k : Int) < (xs.length : Int) := by omega
      have k2 : ((k : Int)).toNat = k := by omega
      have HM : Hid (xs.length - ((k : Int) + 1).toNat < xs.length - ((k : Int)).toNat) := Lib.hid (by omega)
      clear hkp hg hj hc hbl
      subst hAe
      generalize xs.getD k 0 = x at *
      gi_wp2
      refine hR.mono ?_
      rintro e W3 ⟨hk3, H3, hg3, (⟨rfl, hj3⟩ | ⟨rfl, hj3⟩)⟩
      · obtain ⟨hk4, hg4⟩ := keeps_turn HK.out HG.out (G := fun _ => False) (fun _ h => h.elim) hk3 hg3
        clear hk3 hg3
        gi_wp2
        go_roundw
        case rel => exact ⟨k + 1, H3, HLT.out, by go_num, hj3, hk4, hg4⟩
        case measure => exact HM.out
      · obtain ⟨hk4, hg4⟩ := keeps_turn HK.out HG.out (G := fun _ => False) (fun _ h => h.elim) hk3 hg3
        clear hk3 hg3
        gi_wp2
        refine bodyPost_ret (results_none rfl _ _ _) rfl ?_
        exact ⟨⟨_, rfl⟩, hk4, H3, hg4, .inr hj3⟩
    · obtain rfl : k = xs.length := by omega
      rw [List.take_length] at hj
      gi_wp2
      go_end0
      exact ⟨⟨_, rfl⟩, hkp, H', hg, .inl hj⟩

theorem values_any (A : Option Addr) (n c : Nat) (w : World) : Calls Tryd.prog 64 #[.slice A n c] w fun e w' => e = .returned (.func (.func 76) #[] #[.pointer (some ⟨w.heap.size, 0, none⟩)]) ∧ w' = w.alloc (.cells #[.slice A n c] 22) := by
  go_enter Tryd.func64, Tryd.ntmps64
  go_wp2
  go_ret
  exact ⟨rfl, rfl⟩

/-- what the rounds of AppendSeq hold -/
def SeqJ (base sb : Nat) (pre : List Int) (H : Blks) (V : World) : Prop :=
  ∃ v, Boxed V sb 22 v ∧ OwnI V base v pre ∧ H sb ∧ (∀ b, v.ownBlock = some b → H b) ∧ (∀ b, H b → b < V.heap.size) ∧ (∀ b, H b → base ≤ b) ∧ v.ownBlock ≠ some sb
theorem SeqJ.foot {Rd : Blks} {base sb : Nat} {pre : List Int} : Foot Rd (SeqJ base sb pre) := by
  rintro H V ⟨v, h1, h2, h3, h4, h5, h6, h7⟩
  exact ⟨h5, fun V' hs hb => ⟨v, (hb _ (.inl h3)).trans h1, OwnE.same h2 fun g hg => hb g (.inl (h4 g hg)), h3, h4, fun b h => Nat.lt_of_lt_of_le (h5 b h) hs, h6, h7⟩⟩
theorem seq_next {base sb : Nat} {pre : List Int} {H : Blks} {U Wa w' : World} {v v' : Value} {x : Int} (h1 : Boxed U sb 22 v) (h3 : H sb) (h4 : ∀ b, v.ownBlock = some b → H b) (h5 : ∀ b, H b → b < U.heap.size) (h6 : ∀ b, H b → base ≤ b) (h7 : v.ownBlock ≠ some sb)
    (hW : Below U.heap.size U Wa) (ho : OwnI w' base v' (pre ++ [x])) (hgr : Wa.grownBy w' v.ownBlock) (hv' : v'.ownBlock = v.ownBlock ∨ ∃ h, v'.ownBlock = some h ∧ Wa.heap.size ≤ h) :
    Keeps (fun b => H b ∨ False) U (w'.setCell ⟨sb, 0, none⟩ v') ∧ ∃ H', (∀ b, H' b → (H b ∨ False) ∨ U.heap.size ≤ b) ∧ SeqJ base sb (pre ++ [x]) H' (w'.setCell ⟨sb, 0, none⟩ v') := by
  have s1 := hW.size
  have s2 := hgr.size
  have sz : (w'.setCell ⟨sb, 0, none⟩ v').heap.size = w'.heap.size := by simp [World.setCell]
  have hsl := h5 _ h3
  have hbx : w'.heap[sb]? = some (.cells #[v] 22 (0, 0)) := (hgr.block sb (by omega) (fun e => h7 e.symm)).trans ((hW.block sb hsl).trans h1)
  have h7' : v'.ownBlock ≠ some sb := by
    rcases hv' with e | ⟨h, e, hl⟩
    · rw [e]; exact h7
    · rw [e]; intro e2; injection e2 with e2; omega
  have hlt := OwnE.lt ho
  refine ⟨⟨hgr.os.trans hW.os, hgr.tape.trans hW.tape, hgr.output.trans hW.output, by omega, fun b hb hn => ?_⟩, fun b => H b ∨ v'.ownBlock = some b, fun b hb => ?_, v', heap_setCell_same w' sb 0 _ _ v' hbx, OwnE.same ho fun g hg => heap_setCell_other _ _ _ _ (fun e => h7' (by rw [hg]; exact congrArg some e)), .inl h3, fun b hb => .inr hb, fun b hb => ?_, fun b hb => ?_, h7'⟩
  · exact (heap_setCell_other _ _ _ _ (fun e => hn (.inl (by rw [show b = sb from e]; exact h3)))).trans ((hgr.block b (by omega) (fun e => hn (.inl (h4 b e.symm)))).trans (hW.block b hb))
  · rcases hb with hb | hb
    · exact .inl (.inl hb)
    · rcases hv' with e | ⟨h, e, hl⟩
      · exact .inl (.inl (h4 b (e ▸ hb)))
      · rw [e] at hb; injection hb with hb; exact .inr (by omega)
  · rcases hb with hb | hb
    · have := h5 b hb; omega
    · have := (hlt b hb).2; omega
  · rcases hb with hb | hb
    · exact h6 b hb
    · exact (hlt b hb).1

set_option maxRecDepth 100000 in
set_option maxHeartbeats 2000000 in
theorem appendSeq_any (xs : List Int) (hl : xs.length ≤ 1000) (gf : Nat) (lb : Array Value) (O : Blks) (w : World) (eg : ∀ args u, (callFunc gf args).run Tryd.prog u = .ok (.enter gf args) u) (hO : ∀ b, O b → b < w.heap.size) (hv : ∀ u, Below w.heap.size w u → Visits Tryd.prog gf #[] lb xs RVal O u) :
    Calls Tryd.prog 88 #[.slice none 0 0, .func (.func gf) #[] lb] w fun e w' => ∃ v, e = .returned v ∧ OwnI w' w.heap.size v xs ∧ Below w.heap.size w w' := by
  have HV := Lib.hid hv
  have HO := Lib.hid hO
  have HEG := Lib.hid eg
  clear hv hO eg
  refine (callsIn_wide (n := 6)).1 ?_
  refine callsIn_of_wp_marks Tryd.func88 rfl trivial ?_ rfl
  simp only [Tryd.ntmps88, List.size_toArray, List.length_cons, List.length_nil, Nat.reduceAdd, Nat.reduceSub, Array.replicate_succ, Array.replicate_zero, List.push_toArray, List.append_toArray, List.nil_append, List.cons_append]
  gi_upto_region 1 with fail
  generalize hW0 : w.alloc _ = W0
  have hB0 : Below w.heap.size w W0 := by rw [← hW0]; exact (Below.refl _ _).alloc (Nat.le_refl _) _
  have b0 : Boxed W0 w.heap.size 22 (.slice none 0 0) := by rw [← hW0]; exact Boxed.new w _ _
  have hs0 : W0.heap.size = w.heap.size + 1 := by rw [← hW0]; simp
  clear hW0
  have HB0 := Lib.hid hB0
  have HS0 := Lib.hid hs0
  obtain ⟨sb, hsb⟩ : ∃ sb, sb = w.heap.size := ⟨_, rfl⟩
  rw [← hsb] at b0
  have hJ0 : SeqJ w.heap.size sb [] (fun k => k = sb) W0 := ⟨_, b0, OwnE.nil _ _ _, rfl, fun k h => (by cases h), fun k h => by subst h; omega, fun k h => by subst h; omega, by simp [Value.ownBlock]⟩
  have HSB := Lib.hid hsb
  have HJ0 := Lib.hid hJ0
  clear hJ0 b0 hB0 hs0 hsb
  gi_wp2
  rw [← HSB.out]
  have hsb := HSB.out
  refine wpIn_visits (gf := gf) (ba := #[]) (lb := lb) rfl HEG.out (HV.out W0 HB0.out) (fun x G V vs h => by rw [h.2]; rfl)
    (SeqJ w.heap.size sb) (fun _ _ _ => False) (fun _ => SeqJ.foot) (fun _ => foot_false _) (fun k => k = sb) HJ0.out ?hO ?round ?done ?stop
  case hO => exact fun k h => ⟨fun h2 => by have := HO.out k h; omega, by have := HO.out k h; have := HS0.out; omega⟩
  case round =>
    rintro l pre x H G vs V K hl2 ⟨r0, hr⟩ hHl hGl ⟨v, h1, h2, h3, h4, h5, h6, h7⟩ hx ⟨hG0, rfl⟩ hGa hK
    clear hsb
    dsimp only
    gi_wp2
    refine hK _ _ (Keeps.refl _ _) fun r => ?_
    have hu : ∀ k, k ≠ l → (V.putObj l (.loop r)).heap[k]? = V.heap[k]? := fun k h => World.putObj_heap_other h
    have hsz : V.heap.size = (V.putObj l (.loop r)).heap.size := by simp
    have nl : ∀ k, H k → k ≠ l := fun k h e => hHl (e ▸ h)
    have g1 : Boxed (V.putObj l (.loop r)) sb 22 v := (hu sb (nl _ h3)).trans h1
    have g2 : OwnI (V.putObj l (.loop r)) w.heap.size v pre := OwnE.same h2 fun g hg => hu g (nl _ (h4 g hg))
    rw [hsz] at h5 ⊢
    generalize V.putObj l (.loop r) = U at *
    obtain ⟨rA, rc, hve⟩ := OwnE.slice g2
    have HH := Lib.hid (show Boxed U sb 22 v ∧ H sb ∧ (∀ b, v.ownBlock = some b → H b) ∧ (∀ b, H b → b < U.heap.size) ∧ (∀ b, H b → w.heap.size ≤ b) ∧ v.ownBlock ≠ some sb from ⟨g1, h3, h4, h5, h6, h7⟩)
    have hxl : pre.length < 1000 := by have := hx.length_le; simp at this; omega
    have HOA := Lib.hid (OwnE.alloc g2 (.cells #[.int .i64 x] 3))
    have HCA : Hid ((U.alloc (.cells #[.int .i64 x] 3)).cell? ⟨U.heap.size, 0, none⟩ = some (.int .i64 x)) := Lib.hid (cell_new _ _ _)
    have HBA : Hid (Below U.heap.size U (U.alloc (.cells #[.int .i64 x] 3))) := Lib.hid ((Below.refl _ _).alloc (Nat.le_refl _) _)
    have HWU : Hid (w.heap.size ≤ U.heap.size) := Lib.hid (by have := h5 _ h3; have := h6 _ h3; omega)
    have HXL := Lib.hid hxl
    subst hve
    have x1 := g1.cell
    have x1f := g1.frozen
    have HG0 : Hid (G = fun _ => False) := Lib.hid (by funext k; exact propext ⟨fun h => hG0 k h, fun h => h.elim⟩)
    clear h1 h2 h3 h4 h5 h6 h7 g1 g2 hu nl hsz hx hr hHl hGl hGa hK hl2 hxl hG0
    gi_wp2_with (first | (with_reducible refine wpListIn_append_both rfl _ _ rfl w.heap.size (.slice rA pre.length rc) pre rfl HOA.out U.heap.size 1 x rfl HCA.out (by have := HXL.out; omega) (Nat.le_trans HWU.out HBA.out.size) ?_) | (intro v' w2 r1 r2 r3 r4; have q7 : Boxed w2 sb 22 (.slice rA pre.length rc) := (r3.block sb (Nat.lt_of_lt_of_le (HH.out.2.2.2.1 _ HH.out.2.1) HBA.out.size) (fun e => HH.out.2.2.2.2.2 e.symm)).trans ((HBA.out.block sb (HH.out.2.2.2.1 _ HH.out.2.1)).trans HH.out.1); have q7c := q7.cell; have q7f := q7.frozen; have HEND := Lib.hid (seq_next HH.out.1 HH.out.2.1 HH.out.2.2.1 HH.out.2.2.2.1 HH.out.2.2.2.2.1 HH.out.2.2.2.2.2 HBA.out r1 r3 (r4.imp And.left (fun ⟨h, e1, e2⟩ => ⟨h, e1, by rw [size_alloc]; exact e2⟩))); obtain ⟨a6, c6, hv6⟩ := OwnE.slice r1; subst hv6; clear r1 r2 r3 r4 q7))
    have hE := HEND.out
    rw [show (pre ++ [x]).length = pre.length + 1 by simp] at hE
    rw [HG0.out]
    exact hE
  case done =>
    rintro D H Wf hD hHD hg ⟨v, h1, h2, h3, h4, h5, h6, h7⟩ hk hKd
    have x1 := h1.cell
    have nD : ∀ k, H k → k ≠ D := fun k h e => hHD (by rw [← e]; exact h)
    have HKD := Lib.hid hKd
    have HB : Hid (Below w.heap.size w (Wf.putObj D (.deferred none))) := by
      have h1 : Below w.heap.size w Wf := HB0.out.trans (hk.below HB0.out.size fun i hi h => by omega)
      exact Lib.hid (h1.trans ⟨rfl, rfl, rfl, by simp, fun k hk => World.putObj_heap_other (by have := HB0.out.size; omega)⟩)
    have HOW : Hid (OwnI (Wf.putObj D (.deferred none)) w.heap.size v xs) := Lib.hid (OwnE.same h2 fun g hg => World.putObj_heap_other (nD _ (h4 g hg)))
    clear h1 h2 h3 h4 h5 h6 h7 hk hKd hg hHD nD hsb
    obtain ⟨rA, rc, hve⟩ := OwnE.slice HOW.out
    subst hve
    gi_wp2
    refine ⟨by simp, .inl ⟨_, _, rfl, run_takeDeferred HKD.out, ?_⟩⟩
    exact ⟨_, by simp [results, Tryd.results88, go_sem], _, rfl, HOW.out, HB.out⟩
  case stop => exact fun _ _ _ _ _ _ _ h => h.elim

theorem collect_any (xs : List Int) (hl : xs.length ≤ 1000) (gf : Nat) (lb : Array Value) (O : Blks) (w : World) (eg : ∀ args u, (callFunc gf args).run Tryd.prog u = .ok (.enter gf args) u) (hO : ∀ b, O b → b < w.heap.size) (hv : ∀ u, Below w.heap.size w u → Visits Tryd.prog gf #[] lb xs RVal O u) :
    Calls Tryd.prog 74 #[.func (.func gf) #[] lb] w fun e w' => ∃ v, e = .returned v ∧ OwnI w' w.heap.size v xs ∧ Below w.heap.size w w' := by
  have HA := Lib.hid (appendSeq_any xs hl gf lb O w eg hO hv)
  clear hv eg hO
  go_enter Tryd.func74, Tryd.ntmps74
  go_wp2_with (go_at_call 88; refine HA.out.mono ?_; rintro e w1 ⟨v, rfl, ho, hb⟩; obtain ⟨ao, c, rfl⟩ := OwnE.slice ho)
  go_ret
  exact ⟨_, rfl, ho, hb⟩

theorem sorted_any (xs : List Int) (hl : xs.length ≤ 1000) (gf : Nat) (lb : Array Value) (O : Blks) (w : World) (eg : ∀ args u, (callFunc gf args).run Tryd.prog u = .ok (.enter gf args) u) (hO : ∀ b, O b → b < w.heap.size) (hv : ∀ u, Below w.heap.size w u → Visits Tryd.prog gf #[] lb xs RVal O u) :
    Calls Tryd.prog 63 #[.func (.func gf) #[] lb] w fun e w' => ∃ v, e = .returned v ∧ OwnI w' w.heap.size v (srt xs) ∧ Below w.heap.size w w' := by
  have HA := Lib.hid (collect_any xs hl gf lb O w eg hO hv)
  clear hv eg hO
  go_enter Tryd.func63, Tryd.ntmps63
  go_wp2_with (go_at_call 74; refine HA.out.mono ?_; rintro e w1 ⟨v, rfl, ho, hb⟩; obtain ⟨ao, c, rfl⟩ := OwnE.slice ho)
  have HB := Lib.hid hb
  have HS := Lib.hid (sort_any _ _ xs w1 ho (by omega))
  have HO := Lib.hid ho
  clear ho hb
  go_wp2_with (go_at_call 75; refine HS.out.mono ?_; rintro e w2 ⟨rfl, h2, h3⟩)
  go_ret
  exact ⟨_, rfl, h2, HB.out.grown h3 HB.out.size (fun k hk => (OwnE.lt HO.out k hk).1)⟩

theorem compact_any (base : Nat) (v : Value) (zs : List Int) (w : World) (h : OwnI w base v zs) (hl : zs.length ≤ 1000) :
    Calls Tryd.prog 62 #[v] w fun e w' => (∃ A c, e = .returned (.slice A (Lib.compact zs).length c)) ∧ Below base w w' := by
  have hc : cellsE EInt zs = zs.map (Value.int .i64) := cellsE_int zs
  have h0 := h
  rcases h0.2 with ⟨e, hn⟩ | ⟨g, cap, cur, e, hbg, hg, h1, h2, h3, h4⟩
  · have hx : zs = [] := List.eq_nil_of_length_eq_zero hn
    subst hx e
    refine (Tryd.slices_Compact_int_empty none 0 w).mono ?_
    rintro e w' ⟨rfl, rfl⟩
    exact ⟨⟨_, _, rfl⟩, Below.refl _ _⟩
  · subst e
    have hH := holds_of_blockI (ss := zs) hg (by rw [← hc, ← h4, show EInt.size = 1 from rfl, Nat.mul_one])
    refine (Tryd.slices_Compact_int g 0 cap zs w hH (by omega) h1).mono ?_
    rintro e w' ⟨rfl, q, rfl⟩
    exact ⟨⟨_, _, rfl⟩, Lib.below_putRow (Below.refl _ _) hbg⟩

/-- the number of different elements -/
def cntS (xs : List Int) : Nat := (Lib.compact (srt xs)).length
set_option maxHeartbeats 1000000 in
theorem countImages_any (xs : List Int) (A : Option Addr) (c : Nat) (w : World) (hl : xs.length ≤ 1000) (hA : Ints w w.heap.size A xs) :
    Calls Tryd.prog 42 #[.slice A xs.length c] w fun e w' => e = .returned (.int .i64 (cntS xs : Int)) ∧ Below w.heap.size w w' := by
  have hb0 : Below w.heap.size w (w.alloc (.cells #[.slice A xs.length c] 22)) := (Below.refl _ _).alloc (Nat.le_refl _) _
  have HB0 := Lib.hid hb0
  have HVA := Lib.hid (values_any A xs.length c w)
  have HS := Lib.hid (sorted_any xs hl 76 #[.pointer (some ⟨w.heap.size, 0, none⟩)] (fun b => b = w.heap.size ∨ ∃ o, xs ≠ [] ∧ A = some ⟨b, o, none⟩) (w.alloc (.cells #[.slice A xs.length c] 22)) (enters_of Tryd.func76 (by kernel_rfl) rfl) (fun b h => by
    rcases h with h | ⟨o, hn, h⟩
    · simp; omega
    · rcases hA with h2 | ⟨b2, o2, e2, hb2, _⟩
      · exact absurd h2 hn
      · rw [h] at e2; injection e2 with e2; injection e2 with e2; simp; omega) (fun u hu => values_visits xs hl w.heap.size A c u (heap_up hu (Boxed.new w _ _)) (Reads.up (Reads.up hA hb0) hu)))
  have HC : Hid (cntS xs = (Lib.compact (srt xs)).length) := Lib.hid rfl
  have HL := Lib.hid (srt_len xs)
  clear hA hb0
  generalize cntS xs = N at HC ⊢
  go_enter Tryd.func42, Tryd.ntmps42
  go_wp2_with (first | (go_at_call 64; refine HVA.out.mono ?_; rintro e w1 ⟨rfl, rfl⟩) | (go_at_call 63; refine HS.out.mono ?_; rintro e w2 ⟨v, rfl, ho, hb⟩; have HB := Lib.hid (HB0.out.trans (hb.mono (by simp))); have HCC := Lib.hid (compact_any _ v _ w2 ho (by have := HL.out; omega)); have HSZ := Lib.hid hb.size; obtain ⟨ao, c2, rfl⟩ := OwnE.slice ho; clear ho hb) | (go_at_call 62; refine HCC.out.mono ?_; rintro e w3 ⟨⟨A3, c3, rfl⟩, hb3⟩))
  go_ret
  exact ⟨ret_int (by rw [HC.out]), HB.out.trans (hb3.mono (by simp))⟩

end Go.Proofs.YtaeelanbkdkppaaDoor

/-
  How many different elements a list has, and what that says.
-/
namespace Go.Proofs.YtaeelanbkdkppaaDoor

theorem nodup_le {l k : List Int} (h : l.Nodup) (hs : ∀ x ∈ l, x ∈ k) : l.length ≤ k.length := by
  induction l generalizing k with
  | nil => simp
  | cons x l ih =>
    obtain ⟨h1, h2⟩ := List.nodup_cons.1 h
    have hx := hs x (by simp)
    have := ih (k := k.erase x) h2 fun y hy => (List.mem_erase_of_ne (fun e => h1 (by rw [← e]; exact hy))).2 (hs y (by simp [hy]))
    rw [List.length_erase_of_mem hx] at this
    have := List.length_pos_of_mem hx
    simp
    omega
/-- of an ascending list: what is left has no two equal elements, and the same ones -/
theorem compactUp (zs : List Int) (h : zs.Pairwise (· ≤ ·)) (m : Nat) (hm : m ≤ zs.length) :
    (Lib.compactUpTo zs.toArray m).Nodup ∧ (∀ x, x ∈ Lib.compactUpTo zs.toArray m ↔ x ∈ zs.take m) := by
  induction m with
  | zero => simp [Lib.compactUpTo]
  | succ m ih =>
    obtain ⟨h1, h2⟩ := ih (by omega)
    have hlt : m < zs.length := by omega
    have hg : zs.toArray[m]! = zs[m] := by simp [hlt]
    rw [Lib.compactUpTo_succ, hg]
    have ht : zs.take (m + 1) = zs.take m ++ [zs[m]] := by rw [List.take_add_one, List.getElem?_eq_getElem hlt]; rfl
    rw [ht]
    by_cases hk : Lib.keeps zs.toArray m = true
    · rw [if_pos hk]
      have hn : zs[m] ∉ zs.take m := fun hx => by
        obtain ⟨i, hi, e⟩ := List.mem_iff_getElem.1 hx
        have him : i < m := by simp at hi; omega
        rw [List.getElem_take] at e
        rcases of_decide_eq_true (by simpa [Lib.keeps] using hk : decide (m = 0 ∨ zs.toArray[m]! ≠ zs.toArray[m - 1]!) = true) with h0 | h0
        · omega
        · have hg2 : zs.toArray[m - 1]! = zs[m - 1]'(by omega) := by simp [show m - 1 < zs.length by omega]
          rw [hg, hg2] at h0
          have a1 : zs[m - 1]'(by omega) ≤ zs[m] := List.pairwise_iff_getElem.1 h (m - 1) m (by omega) hlt (by omega)
          have a2 : zs[i]'(by omega) ≤ zs[m - 1]'(by omega) := by
            rcases Nat.lt_or_ge i (m - 1) with h3 | h3
            · exact List.pairwise_iff_getElem.1 h i (m - 1) (by omega) (by omega) h3
            · have : i = m - 1 := by omega
              subst this
              exact Int.le_refl _
          omega
      refine ⟨?_, fun x => by rw [List.mem_append, List.mem_append, h2]⟩
      rw [List.nodup_append]
      refine ⟨h1, by simp, fun x hx y hy => ?_⟩
      simp at hy
      subst hy
      exact fun e => hn (by rw [← e]; exact (h2 x).1 hx)
    · rw [if_neg hk, List.append_nil]
      refine ⟨h1, fun x => ?_⟩
      have hk' : Lib.keeps zs.toArray m = false := by simpa using hk
      have hm0 : m ≠ 0 ∧ zs.toArray[m]! = zs.toArray[m - 1]! := by
        have := of_decide_eq_false (by simpa [Lib.keeps] using hk' : decide (m = 0 ∨ zs.toArray[m]! ≠ zs.toArray[m - 1]!) = false)
        exact ⟨fun e => this (.inl e), Classical.byContradiction fun e => this (.inr e)⟩
      have hg2 : zs.toArray[m - 1]! = zs[m - 1]'(by omega) := by simp [show m - 1 < zs.length by omega]
      rw [hg, hg2] at hm0
      rw [h2, List.mem_append, List.mem_singleton]
      refine ⟨.inl, fun hx => hx.elim id fun e => ?_⟩
      rw [e, hm0.2]
      exact List.mem_iff_getElem.2 ⟨m - 1, by simp; omega, by rw [List.getElem_take]⟩
theorem srt_asc (xs : List Int) : (srt xs).Pairwise (· ≤ ·) := by
  have := List.pairwise_mergeSort (le := fun x y : Int => decide (x ≤ y)) (fun a b c h1 h2 => by simp at *; omega) (fun a b => by simp; omega) xs
  unfold srt
  exact this.imp fun h => by simpa using h
theorem cnt_spec (xs : List Int) : ∃ cz : List Int, cntS xs = cz.length ∧ cz.Nodup ∧ ∀ x, x ∈ cz ↔ x ∈ xs := by
  have h := compactUp (srt xs) (srt_asc xs) (srt xs).length (Nat.le_refl _)
  refine ⟨Lib.compact (srt xs), rfl, h.1, fun x => (h.2 x).trans ?_⟩
  rw [List.take_length]
  unfold srt
  exact List.mem_mergeSort
theorem cnt_nodup (xs : List Int) : cntS xs = xs.length ↔ xs.Nodup := by
  obtain ⟨cz, e, h1, h2⟩ := cnt_spec xs
  rw [e]
  constructor
  · intro hl
    refine Classical.byContradiction fun hn => ?_
    rw [nodup_iff] at hn
    have ⟨i, k, hi, hk, he⟩ : ∃ i k, i < xs.length ∧ k < i ∧ xs.getD i 0 = xs.getD k 0 := Classical.byContradiction fun h => hn fun i k hi hk he => h ⟨i, k, hi, hk, he⟩
    have hsub : ∀ x ∈ cz, x ∈ xs.eraseIdx i := fun x hx => by
      obtain ⟨j, hj, ej⟩ := List.mem_iff_getElem.1 ((h2 x).1 hx)
      rw [List.mem_eraseIdx_iff_getElem]
      by_cases hji : j = i
      · subst hji
        refine ⟨k, by omega, by omega, ?_⟩
        rw [← ej, ← getD_eq (show k < xs.length by omega), ← getD_eq hj]
        exact he.symm
      · exact ⟨j, hj, hji, ej⟩
    have := nodup_le h1 hsub
    rw [List.length_eraseIdx_of_lt hi] at this
    omega
  · intro hn
    exact Nat.le_antisymm (nodup_le h1 fun x hx => (h2 x).1 hx) (nodup_le hn fun x hx => (h2 x).2 hx)
theorem num0_mem {n : Nat} {x : Int} : x ∈ numS (0 : Nat) n ↔ 0 ≤ x ∧ x < n := by
  rw [List.mem_iff_getElem]
  constructor
  · rintro ⟨i, hi, e⟩
    have hl : i < n := by rw [num_length] at hi; exact hi
    rw [← getD_eq hi, num_get hl] at e
    omega
  · rintro ⟨h1, h2⟩
    refine ⟨x.toNat, by rw [num_length]; omega, ?_⟩
    rw [← getD_eq (by rw [num_length]; omega), num_get (by omega)]
    omega
theorem num0_nodup (n : Nat) : (numS (0 : Nat) n).Nodup := by
  rw [nodup_iff]
  intro i k hi hk
  rw [num_length] at hi
  rw [num_get hi, num_get (by omega)]
  omega
theorem cnt_cov (xs : List Int) (n : Nat) (hr : ∀ x ∈ xs, 0 ≤ x ∧ x < n) : cntS xs = n ↔ Cov xs n := by
  obtain ⟨cz, e, h1, h2⟩ := cnt_spec xs
  rw [e]
  constructor
  · intro hl k hk
    refine Classical.byContradiction fun hn => ?_
    have hsub : ∀ x ∈ cz, x ∈ (numS (0 : Nat) n).erase (k : Int) := fun x hx => by
      refine (List.mem_erase_of_ne fun e => hn (by rw [← e]; exact (h2 x).1 hx)).2 (num0_mem.2 (hr x ((h2 x).1 hx)))
    have := nodup_le h1 hsub
    rw [List.length_erase_of_mem (num0_mem.2 (by omega)), num_length] at this
    omega
  · intro hc
    have a1 := nodup_le h1 (k := numS (0 : Nat) n) fun x hx => num0_mem.2 (hr x ((h2 x).1 hx))
    have a2 := nodup_le (num0_nodup n) (k := cz) fun x hx => (h2 x).2 (by
      have := num0_mem.1 hx
      have h3 := hc x.toNat (by omega)
      rwa [show ((x.toNat : Nat) : Int) = x by omega] at h3)
    rw [num_length] at a1 a2
    omega

end Go.Proofs.YtaeelanbkdkppaaDoor

