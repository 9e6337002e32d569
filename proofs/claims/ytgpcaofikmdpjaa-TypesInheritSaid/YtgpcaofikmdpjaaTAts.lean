/-
  Types: Attrs of the reference.
-/
import Derived.Test.YtgpcaofikmdpjaaTAnc
namespace Go.Proofs.Ytgpcaofikmdpjaa
open Go.RowKit

theorem infoStr : (Try.prog.info? 9).map (fun i => (i.zero, i.size, i.bytes)) = some (some (.string ⟨#[]⟩), 1, 16) := by kernel_rfl
abbrev OwnS (w : World) (base : Nat) (v : Value) (xs : List ByteArray) : Prop := OwnE EStr 9 w base v xs
/-- raw attributes whose names are rows of the call's own -/
def RawOwn (w : World) (base : Nat) (ys : List RAtt) (xs : List Att) : Prop := ys.length = xs.length ∧ ∀ (i : Nat) (y : RAtt) (x : Att), ys[i]? = some y → xs[i]? = some x → y.nm = x.nm ∧ y.lo = x.lo ∧ y.hi = x.hi ∧ OwnS w base (.slice y.A y.n y.c) x.ns
theorem RawOwn.nil (w : World) (base : Nat) : RawOwn w base [] [] := ⟨rfl, fun i y x h => by simp at h⟩
theorem RawOwn.map {w w' : World} {base : Nat} {ys : List RAtt} {xs : List Att} (h : RawOwn w base ys xs) (f : ∀ v ns, OwnS w base v ns → OwnS w' base v ns) : RawOwn w' base ys xs :=
  ⟨h.1, fun i y x h1 h2 => by obtain ⟨a, b, c, d⟩ := h.2 i y x h1 h2; exact ⟨a, b, c, f _ _ d⟩⟩
theorem RawOwn.snoc {w : World} {base : Nat} {ys : List RAtt} {xs : List Att} {y : RAtt} {x : Att} (h : RawOwn w base ys xs) (hy : y.nm = x.nm ∧ y.lo = x.lo ∧ y.hi = x.hi ∧ OwnS w base (.slice y.A y.n y.c) x.ns) : RawOwn w base (ys ++ [y]) (xs ++ [x]) := by
  refine ⟨by rw [List.length_append, List.length_append, h.1]; rfl, fun i y' x' h1 h2 => ?_⟩
  rw [List.getElem?_append] at h1 h2
  by_cases hi : i < ys.length
  · rw [if_pos hi] at h1
    rw [if_pos (by rw [← h.1]; exact hi)] at h2
    exact h.2 i y' x' h1 h2
  · rw [if_neg hi] at h1
    rw [if_neg (by rw [← h.1]; exact hi), ← h.1] at h2
    have : i - ys.length = 0 := by
      rcases Nat.eq_zero_or_pos (i - ys.length) with h0 | h0
      · exact h0
      · rw [List.getElem?_eq_none (by simp; omega)] at h1; cases h1
    rw [this] at h1 h2
    simp at h1 h2
    subst h1 h2
    exact hy
theorem OwnE.cap {α : Type} {E : El α} {t : TypeId} {w : World} {base : Nat} {A : Option Addr} {n c : Nat} {xs : List α} (h : OwnE E t w base (.slice A n c) xs) : xs.length ≤ c := by
  rcases h.2 with ⟨hv, hn⟩ | ⟨g, cap, cur, hv, _, _, hnc, _⟩
  · omega
  · cases hv; exact hnc
theorem RawOwn.rel {w : World} {base : Nat} {ys : List RAtt} {xs : List Att} (h : RawOwn w base ys xs) : RawRel w w.heap.size ys xs :=
  ⟨h.1, fun i y x h1 h2 => by
    obtain ⟨a, b, c, d⟩ := h.2 i y x h1 h2
    obtain ⟨A', c', e, hr⟩ := OwnE.reads d
    obtain ⟨nm, lo, hi, A, n, c0⟩ := y
    dsimp only at a b c e
    subst a b c
    cases e
    exact ⟨A', c', rfl, hr, OwnE.cap d⟩⟩
/-- attributes with an error -/
def AttsR (L : List Att) (er : Nat) (e : Ending) (w' : World) : Prop := ∃ A' c', e = .returned (.tuple #[.slice A' L.length c', .int .i64 er]) ∧ Atts w' w'.heap.size A' L ∧ L.length ≤ c'
def attR (t : Typ) (a : Int) : List Att := if givenE t a a = 0 then attL t a else []

theorem grown_set (w : World) (b o : Nat) (u : Value) : w.grownBy (w.setCell ⟨b, o, none⟩ u) (some b) :=
  ⟨rfl, rfl, rfl, by simp [World.setCell], fun k _ hk => heap_setCell_other w _ _ _ (fun e => hk (by rw [e]))⟩
theorem row_set3 {w : World} {g : Nat} {a b c d e : Value} {t : TypeId} (h : w.heap[g]? = some (.cells #[a, b, c, d] t (0, 0))) : (w.setCell ⟨g, 3, none⟩ e).heap[g]? = some (.cells #[a, b, c, e] t (0, 0)) := by
  rw [heap_setCell_same _ _ _ _ _ _ h]
  rfl

set_option maxRecDepth 100000 in
set_option maxHeartbeats 4000000 in
theorem attrsS_any (hn : NameC 55) (t : Typ) (An : Option Addr) (cn : Nat) (Ae : Option Addr) (ce : Nat) (a : Int) (hf : FewT t) (w : World) (hT : TyC w An Ae t) :
    Calls Try.prog 22 #[tyval An t.nodes.length cn Ae t.edges.length ce, .int .i64 a] w fun e w' => AttsR (attR t a) (givenE t a a) e w' ∧ Below w.heap.size w w' := by
  have HG := Lib.hid (fun u hu => given_any hn t An cn Ae ce a a hf u hu)
  have HT := Lib.hid hT
  have HX : Hid (attR t a = if givenE t a a = 0 then attL t a else []) := Lib.hid rfl
  have HSM := Lib.hid (attL_small hf a)
  have hn20 := hf.nodes
  have HLL := Lib.hid (fun ha => attL_len (a := a) (fun x hx => (hf.node x hx).2.1) ha)
  have HAT := Lib.hid (fun (hg : GoodP t) h1 h2 u hu => attrs_call t An cn Ae ce t.nodes.length hg (Nat.le_refl _) hf a u h1 h2 hu)
  clear hT hn hf
  generalize attR t a = R at HX ⊢
  by_cases hg : givenE t a a = 0
  · have hG := giv_of hg
    rw [hg] at HG ⊢
    have HX2 : Hid (R = attL t a) := Lib.hid (by rw [HX.out, if_pos hg])
    have hlen := HLL.out (by have := hG.a1; omega)
    have HAT2 := Lib.hid (fun u hu => HAT.out hG.val.good (by have := hG.a0; omega) hG.a1 u hu)
    clear HX HAT HLL hg hG
    generalize attL t a = L at HX2 HAT2 hlen HSM
    generalize t.nodes.length = N at *
    generalize t.edges.length = M at *
    go_enter Try.func22, Try.ntmps22
    go_wp2_with fail
    refine (HG.out _ (HT.out.up ((Below.refl _ _).alloc (Nat.le_refl _) _))).mono ?_
    rintro e w1 ⟨rfl, hb1⟩
    have hb1' := below_one' hb1
    obtain ⟨c0, c1⟩ := box_cell hb1'
    have HB1 := Lib.hid (box_below hb1')
    clear hb1 hb1'
    go_wp2_with fail
    refine (HAT2.out _ (HT.out.up HB1.out).1).mono ?_
    rintro e w3 ⟨⟨A1, cc1, rfl, hat⟩, hb3⟩
    have HB3 := Lib.hid (HB1.out.trans (hb3.mono HB1.out.size))
    have HA3 := Lib.hid hat
    clear hat hb3 c0 c1
    go_wp2_with fail
    go_loopw [7, 9] (fun vo vi wr => ∃ (i : Nat) (ys : List RAtt), i ≤ L.length ∧ vi = .int .i64 i ∧ OwnR wr w3.heap.size vo ys ∧ RawOwn wr w3.heap.size ys (L.take i) ∧ Below w3.heap.size w3 wr) (fun _ vi _ => L.length - (intOf vi).toNat)
    case atStart => exact ⟨0, [], Nat.zero_le _, rfl, OwnE.nil _ _ _, RawOwn.nil _ _, Below.refl _ _⟩
    case round =>
      obtain ⟨i, ys, hi, rfl, hown, hraw, hB⟩ := hrel
      by_cases hlt : i < L.length
      · obtain ⟨b, off, A', c', rfl, hbb, m0, m1, m2, m3, hst⟩ := Atts.cells (HA3.out.below hB) hlt
        obtain ⟨s1, s2, _⟩ := HSM.out _ (List.getElem_mem hlt)
        have HTK : Hid (L.take (i + 1) = L.take i ++ [L[i]]) := Lib.hid (List.take_succ_eq_append_getElem hlt)
        have hyl : ys.length = i := by rw [hraw.1, List.length_take]; omega
        have i0 : (0 : Int) ≤ (i : Int) := by omega
        have i1 : (i : Int) < (L.length : Int) := by omega
        have i2 : ((i : Int)).toNat = i := by omega
        generalize L[i] = x at m0 m1 m2 m3 hst s1 s2 HTK
        obtain ⟨nm, lo, hi', ns⟩ := x
        dsimp only at m0 m1 m2 m3 hst s1 s2
        obtain ⟨q, hq⟩ : ∃ q, q = ns.length := ⟨_, rfl⟩
        have HQ := Lib.hid hq
        rw [← hq] at m3 s2
        have HST := Lib.hid hst
        have HO := Lib.hid hown
        have HR := Lib.hid hraw
        have HB := Lib.hid hB
        have hsz := hB.size
        obtain ⟨vA, vc, rfl⟩ := OwnE.slice hown
        obtain ⟨p, hp⟩ : ∃ p, p = ys.length := ⟨_, rfl⟩
        have hp1 : p ≤ 700 := by omega
        have HP := Lib.hid hp
        rw [← hp] at HO ⊢
        clear hst hown hraw hB hq hp hyl
        go_wp2_with (at_builtin; refine wpList_append_many (E := EStr) (w := World.alloc (World.alloc wr _) _) rfl _ _ 56 9 rfl Try.underlying56 infoStr rfl (by decide) (by decide) w3.heap.size _ [] rfl ?y1 A' q c' wr.heap.size ns rfl ?y2 ?y3 ?y4 ?y5 ?y6 ?_)
        case y1 => exact OwnE.empty (heap_two' _ _ _) (Nat.le_succ_of_le hsz)
        case y2 => exact HQ.out
        case y3 => exact ((HST.out.mono hsz).below ((Below.refl _ _).alloc (Nat.le_refl _) _)).below ((Below.refl _ _).alloc (by simp) _)
        case y4 => simp
        case y5 => omega
        case y6 => simp; omega
        intro v2 w2 hown2 hg2 hb2 _
        replace hown2 := hown2.cast (List.nil_append ns)
        obtain ⟨A2, c2, rfl⟩ := OwnE.slice hown2
        rw [← HQ.out] at hown2 ⊢
        have hbx : w2.heap[wr.heap.size]? = some (.cells #[.string nm, .int .i64 lo, .int .i64 hi', .slice A' q c'] 58 (0, 0)) := (hg2.block wr.heap.size (by simp; omega) (by simp [Value.ownBlock])).trans (heap_two _ _ _)
        have HNE := Lib.hid (own_far hown2 hbx (by decide))
        have b0 : w2.cell? ⟨wr.heap.size, 0, none⟩ = some (.string nm) := cell_of_row _ _ _ _ _ _ hbx
        have b1 : w2.cell? ⟨wr.heap.size, 1, none⟩ = some (.int .i64 lo) := cell_of_row _ _ _ _ _ _ hbx
        have b2 : w2.cell? ⟨wr.heap.size, 2, none⟩ = some (.int .i64 hi') := cell_of_row _ _ _ _ _ _ hbx
        have b3 : w2.cell? ⟨wr.heap.size, 3, none⟩ = some (.slice A' q c') := cell_of_row _ _ _ _ _ _ hbx
        have f3 : w2.frozen? ⟨wr.heap.size, 3, none⟩ = false := frozen_of_row _ _ _ _ _ hbx
        have HG2 := Lib.hid hg2
        have HO2 := Lib.hid hown2
        have HBX := Lib.hid (row_set3 (e := .slice A2 q c2) hbx)
        have HB2 := Lib.hid ((((Below.refl _ _).alloc hsz _).alloc (by simp; omega) _).trans hb2)
        clear hown2 hg2 hb2 hbx
        have hz2 : w3.heap.size ≤ w2.heap.size := Nat.le_trans hsz HB2.out.size
        have HKS : Hid (∀ v ns', OwnS wr w3.heap.size v ns' → OwnS ((w2.setCell ⟨wr.heap.size, 3, none⟩ (.slice A2 q c2)).alloc (.cells #[.string nm, .int .i64 lo, .int .i64 hi', .slice A2 q c2] 58 (0, 0))) w3.heap.size v ns') := Lib.hid fun v ns' h =>
          ((((h.alloc _).alloc _).kept HG2.out (.inr (own_later h (Nat.le_succ _)))).kept (grown_set _ _ _ _) (.inr (own_later h (Nat.le_refl _)))).alloc _
        have HKO : Hid (OwnR ((w2.setCell ⟨wr.heap.size, 3, none⟩ (.slice A2 q c2)).alloc (.cells #[.string nm, .int .i64 lo, .int .i64 hi', .slice A2 q c2] 58 (0, 0))) w3.heap.size (.slice vA p vc) ys) := Lib.hid
          (((((HO.out.alloc _).alloc _).kept HG2.out (.inr (own_later HO.out (Nat.le_succ _)))).kept (grown_set _ _ _ _) (.inr (own_later HO.out (Nat.le_refl _)))).alloc _)
        have HKN : Hid (OwnS ((w2.setCell ⟨wr.heap.size, 3, none⟩ (.slice A2 q c2)).alloc (.cells #[.string nm, .int .i64 lo, .int .i64 hi', .slice A2 q c2] 58 (0, 0))) w3.heap.size (.slice A2 q c2) ns) := Lib.hid
          ((HO2.out.kept (grown_set _ _ _ _) (.inr HNE.out)).alloc _)
        have HKB : Hid (Below w3.heap.size w3 ((w2.setCell ⟨wr.heap.size, 3, none⟩ (.slice A2 q c2)).alloc (.cells #[.string nm, .int .i64 lo, .int .i64 hi', .slice A2 q c2] 58 (0, 0)))) := Lib.hid
          (((HB.out.trans HB2.out).setCell (p := ⟨wr.heap.size, 3, none⟩) hsz _).alloc (by simpa [World.setCell] using hz2) _)
        go_wp2_with (at_builtin; refine wpList_append_E (E := ERaw) (w := World.alloc (World.setCell w2 _ _) _) rfl _ _ 35 58 rfl Try.underlying35 infoAtt rfl (by decide) (by decide) w3.heap.size _ ys rfl ?z1 ⟨w2.heap.size, 0, none⟩ 1 ⟨nm, lo, hi', A2, q, c2⟩ rfl ?z2 ?z3 ?z4 ?_)
        case z1 => exact HKO.out
        case z2 => exact news_of (E := ERaw) (cs := #[.string nm, .int .i64 lo, .int .i64 hi', .slice A2 q c2]) (t := 58) (by have h := heap_alloc_new (w2.setCell ⟨wr.heap.size, 3, none⟩ (.slice A2 q c2)) (.cells #[.string nm, .int .i64 lo, .int .i64 hi', .slice A2 q c2] 58 (0, 0)); simpa [World.setCell] using h) rfl
        case z3 => have := HP.out; omega
        case z4 => exact HKB.out.size
        intro v5 w5 hown5 hg5 hb5
        have HO5 := Lib.hid hown5
        have HR5 : Hid (RawOwn w5 w3.heap.size (ys ++ [⟨nm, lo, hi', A2, q, c2⟩]) (L.take (i + 1))) := Lib.hid (by
          rw [HTK.out]
          refine (HR.out.map fun v ns' h => (HKS.out v ns' h).kept hg5 (own_apart (by decide) (HKS.out v ns' h) HKO.out)).snoc ⟨rfl, rfl, rfl, ?_⟩
          exact HKN.out.kept hg5 (own_apart (by decide) HKN.out HKO.out))
        have HB5 := Lib.hid (HKB.out.trans hb5)
        clear hown5 hg5 hb5 b0 b1 b2 b3 f3
        go_wp2_with fail
        go_roundw
        case rel => exact ⟨i + 1, ys ++ [⟨nm, lo, hi', A2, q, c2⟩], by omega, by go_num, HO5.out, HR5.out, HB5.out⟩
        case measure => simp [intOf]; omega
      · have e : i = L.length := by omega
        have HR3 : Hid (RawOwn wr w3.heap.size ys L) := Lib.hid (by rw [e, List.take_length] at hraw; exact hraw)
        have HL : Hid (ys.length = R.length) := Lib.hid (by rw [HX2.out]; exact HR3.out.1)
        have HO := Lib.hid hown
        have HB := Lib.hid (HB3.out.trans (hB.mono HB3.out.size))
        obtain ⟨Ao, co, rfl⟩ := OwnE.slice hown
        clear hB hown hraw e
        go_wp2_with fail
        go_ret2
        exact ⟨⟨Ao, co, by (rw [HL.out]; rfl), by
          have h1 := OwnE.readAt HO.out rfl
          have h2 := h1.atts HR3.out.rel (Nat.le_refl _)
          rw [HX2.out]
          exact h2, by have h3 := OwnE.cap HO.out; have h4 := HL.out; omega⟩, HB.out⟩
  · have HX2 : Hid (R = []) := Lib.hid (by rw [HX.out, if_neg hg])
    generalize givenE t a a = g at HG hg ⊢
    have t3 : ((g : Int) != 0) = true := by simp; omega
    clear HX hg
    go_enter Try.func22, Try.ntmps22
    go_wp2_with fail
    refine (HG.out _ (HT.out.up ((Below.refl _ _).alloc (Nat.le_refl _) _))).mono ?_
    rintro e w1 ⟨rfl, hb1⟩
    have HB1 := Lib.hid (box_below (below_one' hb1))
    clear hb1
    go_wp2_with fail
    go_ret2
    exact ⟨by rw [HX2.out]; exact ⟨none, 0, rfl, .inl rfl, Nat.le_refl _⟩, HB1.out⟩

end Go.Proofs.Ytgpcaofikmdpjaa
