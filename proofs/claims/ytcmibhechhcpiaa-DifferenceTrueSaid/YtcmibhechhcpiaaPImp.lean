/-
  Difference, the program: Clip, implies.
  Difference, the program: implies.
  Difference, the program: Implies.
-/
import Derived.Test.YtcmibhechhcpiaaPGreat
import Derived.Test.YtcmibhechhcpiaaDImp
import Derived.Test.YtcmibhechhcpiaaDClone
import Derived.Deep.RegionLawGrows
import Derived.StillTailTactics
import Derived.Test.YtcmibhechhcpiaaPValid
namespace Go.Proofs.Ytcmibhechhcpiaa
open Go.RowKit

theorem clip_some (b off n c : Nat) (w : World) (hc : n ≤ c) :
    Calls Try.prog 66 #[.slice (some ⟨b, off, none⟩) n c] w fun e w' => e = .returned (.slice (some ⟨b, off, none⟩) n n) ∧ w' = w := by
  have h0 : (0 : Int) ≤ (n : Int) := by omega
  have h1 : (n : Int) ≤ (c : Int) := by omega
  go_enter Try.func66, Try.ntmps66
  go_wp2
  go_ret
  exact ⟨rfl, rfl⟩
theorem clip_none (w : World) :
    Calls Try.prog 66 #[.slice none 0 0] w fun e w' => e = .returned (.slice none 0 0) ∧ w' = w := by
  go_enter Try.func66, Try.ntmps66
  go_wp2
  go_ret
  exact ⟨rfl, rfl⟩

theorem clip_own {w0 : World} {base c : Nat} {A : Option Addr} {l : List Arc} (h : OwnK w0 base (.slice A l.length c) l) (w : World) :
    Calls Try.prog 66 #[.slice A l.length c] w fun e w' => e = .returned (.slice A l.length l.length) ∧ w' = w := by
  rcases h.2 with ⟨hv, h0⟩ | ⟨g, cap, cur, hv, _, _, hnc, _⟩
  · simp only [Value.slice.injEq] at hv
    obtain ⟨rfl, h1, rfl⟩ := hv
    rw [h1]
    exact clip_none w
  · simp only [Value.slice.injEq] at hv
    obtain ⟨rfl, _, rfl⟩ := hv
    exact clip_some g 0 _ _ w hnc
theorem own_nil {w0 : World} {base c : Nat} {A : Option Addr} {l : List Arc} (h : OwnK w0 base (.slice A l.length c) l) (hA : A = none) : l.length = 0 := by
  rcases h.2 with ⟨hv, h0⟩ | ⟨g, cap, cur, hv, _⟩
  · exact h0
  · subst hA
    simp at hv

theorem step_grows_lnk {w : World} {ops : Array Oper} {o : Oper} {a : Act} {K : Act → World → Prop} {Q : Exit → Act → World → Prop} {X : Prop} (hgd : o.guard = none) (s x : Operand)
    (ho : o.op = .call { callee := .builtin .append, args := #[s, x], argTypes := #[69, 69] })
    (A : Option Addr) (l : List Arc) (hA : A = none → l.length = 0) (hs : a.eval s = .slice A l.length l.length) {B : Nat} (hR : Reads EArc w B A l) (g c : Nat) (m : Arc) (hx : a.eval x = .slice (some ⟨g, 0, none⟩) 1 c)
    (hc : w.heap[g]? = some (.cells #[.int .i64 m.t, .int .i64 m.s, .int .i64 m.f, .int .i64 m.g, .int .i64 m.c] 98 (0, 0))) (hl : l.length ≤ 1000000)
    (hK : ∀ v' w', OwnK w' w.heap.size v' (l ++ [m]) → Below w.heap.size w w' → K (a.put o.dst v') w') : if Region.wanted o (yielded ops a.tmps) = true then Oper.wp Try.prog o a w K Q else X := by
  obtain ⟨i0, hi, hz0, hz1, hz2⟩ := info_parts infoLnk
  refine step_append_grows hgd s x 69 ho 98 i0 _ 5 40 Try.underlying69 hi hz0 hz1 hz2 rfl (by decide) A l.length l.length (cellsE EArc l) hs (fun h => ⟨hA h, hA h⟩) (cellsE_length EArc l) (fun b hb => ?_)
    ⟨g, 0, none⟩ 1 c (EArc.enc m) hx rfl (news_of (E := EArc) hc rfl) (EArc.one m) (by omega) (by unfold maxLen; omega) (by omega) ?_
  · rcases hR with h | ⟨b', off, h1, h2, h3⟩
    · subst h
      intro j u hj
      simp [cellsE] at hj
    · rw [hb] at h1
      injection h1 with h1
      subst h1
      intro j u hj
      rw [addr_plain]
      exact reads_cells (E := EArc) (by decide) h3 j u hj
  · intro v' w' h1 h2
    refine hK v' w' ?_ ((Below.refl _ w).grown h2 (Nat.le_refl _) (by intro k hk; cases hk))
    unfold OwnK OwnE
    rw [cellsE_snoc, List.length_append]
    exact h1

/-- the opposite uses of the first k ones have no solution -/
def NoOpp (n : Nat) (l ys : List Arc) (k : Nat) : Prop := ∀ i (h : i < ys.length), i < k → ¬ OkB n (l ++ [oppA ys[i]])
theorem noOpp_zero (n : Nat) (l ys : List Arc) : NoOpp n l ys 0 := fun i _ h => by omega
theorem noOpp_succ {n : Nat} {l ys : List Arc} {k : Nat} (hk : k < ys.length) (h : NoOpp n l ys k) (h2 : ¬ OkB n (l ++ [oppA ys[k]])) : NoOpp n l ys (k + 1) := by
  intro i hi hik
  rcases Nat.lt_or_ge i k with h3 | h3
  · exact h i hi h3
  · have e : i = k := by omega
    subst e
    exact h2
theorem tight_arcs {n : Int} {xs : List Tst} (hx : ∀ x ∈ xs, Good n x) : Tight (arcsL xs) := by
  intro a ha
  obtain ⟨i, hi, ha⟩ := arcsF_mem ha
  obtain ⟨_, ⟨_, _, h1, h2⟩, _, _, h3, h4⟩ := hx _ (getD_mem hi)
  unfold arcsAt at ha
  rcases List.mem_cons.1 ha with rfl | ha
  · constructor <;> dsimp only <;> omega
  · split at ha
    · simp only [List.mem_singleton] at ha; subst ha; constructor <;> dsimp only <;> omega
    · simp at ha
theorem impl_of_no {n : Nat} {l ys : List Arc} (hn : inN n l) (h12 : n ≤ 12) (hs : Small l) (hy : inN n ys) (ht : Tight ys) (h : NoOpp n l ys ys.length) : Impl l ys := by
  intro v hv a ha
  obtain ⟨i, hi, e⟩ := List.mem_iff_getElem.1 ha
  have h1 := h i hi hi
  rw [e, opp_iff hn h12 hs (hy a ha) (ht a ha)] at h1
  exact Decidable.byContradiction fun h2 => h1 ⟨v, hv, h2⟩
theorem not_impl {n : Nat} {l ys : List Arc} (hn : inN n l) (h12 : n ≤ 12) (hs : Small l) {a : Arc} (ha : a ∈ ys) (hy : inN n ys) (ht : Tight ys) (h : OkB n (l ++ [oppA a])) : ¬ Impl l ys := by
  rw [opp_iff hn h12 hs (hy a ha) (ht a ha)] at h
  obtain ⟨v, hv, h2⟩ := h
  exact fun h3 => h2 (h3 v hv a ha)

end Go.Proofs.Ytcmibhechhcpiaa

namespace Go.Proofs.Ytcmibhechhcpiaa
open Go.RowKit

/-- what implies answers -/
def ImpEnd (l ys : List Arc) (e : Ending) : Prop := ∃ b : Bool, e = .returned (.bool b) ∧ (b = true ↔ Impl l ys)

set_option maxRecDepth 100000 in
set_option maxHeartbeats 4000000 in
theorem pimplies_any (m : Nat) (xs : List Tst) (A : Option Addr) (c : Nat) (x : Tst) (w : World) (hm : m ≤ 12) (hl : xs.length ≤ 40) (hg : ∀ y ∈ xs, Good m y) (hx : Good m x) (hT : Tsts w w.heap.size A xs) :
    Calls Try.prog 58 #[.int .i64 m, .slice A xs.length c, tval x] w fun e w' => ImpEnd (arcsL xs) (arcsL [x]) e ∧ Below w.heap.size w w' := by
  have hgx : ∀ y ∈ [x], Good m y := fun y hy => by simp at hy; subst hy; exact hx
  have hin : inN m (arcsL xs) := by have := arcs_in hg; rwa [Int.toNat_natCast] at this
  have hsm := arcs_small hg
  have hal : (arcsL xs).length ≤ 2 * xs.length := arcsF_len xs xs.length
  have hiy : inN m (arcsL [x]) := by have := arcs_in hgx; rwa [Int.toNat_natCast] at this
  have hty := tight_arcs hgx
  have hyl : (arcsL [x]).length ≤ 2 * 1 := arcsF_len [x] 1
  have HT := Lib.hid hT
  have HL1 := Lib.hid (fun u hu => links_any (m : Int) xs A c u (by omega) hg (by omega) hu)
  have HL2 := Lib.hid (fun g u hu => links_any (m : Int) [x] (some ⟨g, 0, none⟩) 1 u (by simp) hgx (by omega) hu)
  have HB0 := Lib.hid (fun (o : Obj) => (Below.refl w.heap.size w).alloc (Nat.le_refl _) o)
  have HTO := Lib.hid (fun (u : World) (g : Nat) h => tst_one (w := u) (g := g) (x := x) h)
  have HNO := Lib.hid (fun h => impl_of_no hin hm hsm hiy hty h)
  have HYES := Lib.hid (fun a ha h => not_impl hin hm hsm (a := a) ha hiy hty h)
  have HGR : Hid (∀ (a : Arc) (L : List Arc) (A1 : Option Addr) (c1 : Nat) (u : World), a ∈ arcsL [x] → L = arcsL xs ++ [oppA a] → Reads EArc u u.heap.size A1 L →
      Calls Try.prog 40 #[.int .i64 m, .slice A1 L.length c1] u fun e w' => ∃ A' n' c' b, e = .returned (.tuple #[.slice A' n' c', .bool b]) ∧ (b = true ↔ OkB m L) ∧ Below u.heap.size u w') := Lib.hid fun a L A1 c1 u ha hL hR => by
    subst hL
    refine (greatest_any m (arcsL xs ++ [oppA a]) A1 c1 u hm (by simp; omega) (opp_in hin (hiy a ha)) (opp_small hsm (hty a ha)) hR).mono ?_
    rintro e w' ⟨h, hb⟩
    rcases h with ⟨h1, g, cc, rfl, _⟩ | ⟨h1, rfl⟩
    · exact ⟨_, _, _, true, rfl, by simp [h1], hb⟩
    · exact ⟨_, _, _, false, rfl, by simp [h1], hb⟩
  have HOP : Hid (∀ (a : Arc) (u : World), a ∈ arcsL [x] → Calls Try.prog 67 #[aval a] u fun e w' => e = .returned (aval (oppA a)) ∧ Below u.heap.size u w') := Lib.hid fun a u ha => opposite_any a u (by have := hty a ha; omega)
  clear hT hg hx hgx hin hsm hiy hty
  obtain ⟨k, lv, la, rv, ra⟩ := x
  have HBX : Hid (∀ u, Below (w.heap.size + 1) (w.alloc (.cells #[.int .i64 k, .int .i64 lv, .int .i64 la, .int .i64 rv, .int .i64 ra] 32 (0, 0))) u → u.cell? ⟨w.heap.size, 0, none⟩ = some (.int .i64 k) ∧ u.cell? ⟨w.heap.size, 1, none⟩ = some (.int .i64 lv) ∧ u.cell? ⟨w.heap.size, 2, none⟩ = some (.int .i64 la) ∧ u.cell? ⟨w.heap.size, 3, none⟩ = some (.int .i64 rv) ∧ u.cell? ⟨w.heap.size, 4, none⟩ = some (.int .i64 ra)) := Lib.hid fun u hu =>
    ⟨(hu.cell (p := ⟨w.heap.size, 0, none⟩) (by simp)).trans (by simp), (hu.cell (p := ⟨w.heap.size, 1, none⟩) (by simp)).trans (by simp), (hu.cell (p := ⟨w.heap.size, 2, none⟩) (by simp)).trans (by simp), (hu.cell (p := ⟨w.heap.size, 3, none⟩) (by simp)).trans (by simp), (hu.cell (p := ⟨w.heap.size, 4, none⟩) (by simp)).trans (by simp)⟩
  generalize arcsL xs = l at HL1 HGR HNO HYES hal ⊢
  generalize arcsL [(⟨k, lv, la, rv, ra⟩ : Tst)] = ys at HL2 HGR HOP HNO HYES hyl ⊢
  go_enter Try.func58, Try.ntmps58
  go_wp2_with fail
  refine (HL1.out _ (Reads.up HT.out (HB0.out _))).mono ?_
  rintro e w1 ⟨vl, rfl, hlk, hb1⟩
  obtain ⟨A1, c1, rfl⟩ := OwnE.slice hlk
  have hb1' := below_one hb1
  obtain ⟨k0, k1, k2, k3, k4⟩ := HBX.out _ hb1'
  have HLK1 := Lib.hid hlk
  have HB1 := Lib.hid ((HB0.out _).trans (hb1'.mono (by omega)))
  have hs1 : w.heap.size < w1.heap.size := by have := hb1'.size; simp at this; omega
  clear hlk hb1 hb1' HBX
  go_wp2_with fail
  refine (HL2.out _ _ (HTO.out _ _ (heap_alloc_new _ _))).mono ?_
  rintro e w2 ⟨vy, rfl, hyk, hb2⟩
  obtain ⟨A2, c2, rfl⟩ := OwnE.slice hyk
  have HLK2 := Lib.hid (((HLK1.out.alloc (.cells #[.int .i64 k, .int .i64 lv, .int .i64 la, .int .i64 rv, .int .i64 ra] 32 (0, 0))).below hb2 (Nat.le_refl _)))
  have HYK := Lib.hid hyk
  have HB2 := Lib.hid ((HB1.out.alloc (Nat.le_of_lt hs1) (.cells #[.int .i64 k, .int .i64 lv, .int .i64 la, .int .i64 rv, .int .i64 ra] 32 (0, 0))).trans (hb2.mono (by simp; omega)))
  have hs2 : w.heap.size ≤ w2.heap.size := HB2.out.size
  clear hyk hb2 k0 k1 k2 k3 k4 HLK1
  go_wp2_with fail
  go_loopw [18] (fun ki wr => ∃ q : Nat, q ≤ ys.length ∧ ki = .int .i64 q ∧ Below w2.heap.size w2 wr ∧ NoOpp m l ys q) (fun ki _ => ys.length - (intOf ki).toNat)
  case atStart => exact ⟨0, Nat.zero_le _, rfl, Below.refl _ _, noOpp_zero _ _ _⟩
  case round =>
    obtain ⟨q, hq, rfl, hb, hno⟩ := hrel
    have HB := Lib.hid hb
    have HN := Lib.hid hno
    by_cases hlt : q < ys.length
    · obtain ⟨b, off, rfl, hbb, m0, m1, m2, m3, m4⟩ := Arcs.cells (Reads.below HYK.out.read hb) hlt
      have ha := List.getElem_mem hlt
      have HGA := Lib.hid (fun L A1 c1 u hL hR => HGR.out (ys[q]'hlt) L A1 c1 u ha hL hR)
      have HOA := Lib.hid (fun u => HOP.out (ys[q]'hlt) u ha)
      have HYA := Lib.hid (fun h => HYES.out (ys[q]'hlt) ha h)
      have HNS := Lib.hid (fun h => noOpp_succ (n := m) (l := l) hlt hno h)
      have HRL := Lib.hid (HLK2.out.read.below hb)
      have HCL := Lib.hid (fun u => clip_own HLK2.out u)
      have HNIL := Lib.hid (own_nil HLK2.out)
      have q0 : (0 : Int) ≤ (q : Int) := by omega
      have q1 : (q : Int) < (ys.length : Int) := by omega
      have q2 : ((q : Int)).toNat = q := by omega
      have hsz := hb.size
      generalize ys[q] = a at m0 m1 m2 m3 m4 HGA HOA HYA HNS
      obtain ⟨xt, xs', xf, xg, xc⟩ := a
      dsimp only at m0 m1 m2 m3 m4
      clear hb hno ha HNO
      obtain ⟨L, hL⟩ : ∃ L, L = l ++ [oppA ⟨xt, xs', xf, xg, xc⟩] := ⟨_, rfl⟩
      have HGL := Lib.hid (fun A1 c1 u hR => HGA.out L A1 c1 u hL hR)
      have HNL : Hid (¬ OkB m L → NoOpp m l ys (q + 1)) := Lib.hid (by rw [hL]; exact HNS.out)
      have HYL : Hid (OkB m L → ¬ Impl l ys) := Lib.hid (by rw [hL]; exact HYA.out)
      have HLE := Lib.hid hL
      have HW := Lib.hid (show Below w2.heap.size w2 (World.drew (wr.alloc (.cells #[.int .i64 xt, .int .i64 xs', .int .i64 xf, .int .i64 xg, .int .i64 xc] 98 (0, 0)))) from Below.drew (HB.out.alloc hsz _))
      have HWS := Lib.hid (show w2.heap.size ≤ (World.drew (wr.alloc (.cells #[.int .i64 xt, .int .i64 xs', .int .i64 xf, .int .i64 xg, .int .i64 xc] 98 (0, 0)))).heap.size by simp; omega)
      clear hL HGA HNS HYA
      go_wp2_with fail
      go_region_law (first
        | (go_simp; go_at_call 66; with_reducible refine (HCL.out _).mono ?_; rintro e w' ⟨rfl, rfl⟩)
        | (go_simp; go_at_call 67; refine (HOA.out _).mono ?_; rintro e w4 ⟨rfl, hb4⟩; have HB4 := Lib.hid (HW.out.trans (hb4.mono HWS.out)); clear hb4)
        | (refine step_grows_lnk (w := World.alloc w4 _) (by rfl) _ _ (by rfl) A1 l HNIL.out (by rfl) (B := w2.heap.size) (HLK2.out.read.below (HB4.out.alloc HB4.out.size _)) w4.heap.size 1 (oppA ⟨xt, xs', xf, xg, xc⟩) (by rfl) (heap_alloc_new _ _) (by omega) ?_; intro v5 w5 hown5 hb5; replace hown5 := hown5.cast HLE.out.symm; obtain ⟨A5, c5, rfl⟩ := OwnE.slice hown5; have HO5 := Lib.hid hown5; have HB5 := Lib.hid ((HB4.out.alloc HB4.out.size _).trans (hb5.mono (by have := HB4.out.size; simp; omega))); clear hown5 hb5)
        | (go_simp; go_at_call 40; refine (HGL.out _ _ _ HO5.out.read).mono ?_; rintro e w6 ⟨A6, n6, c6, b6, rfl, hok6, hb6⟩; have HB6 := Lib.hid (HB5.out.trans (hb6.mono HB5.out.size)); have HOK6 := Lib.hid hok6; clear hok6 hb6))
      all_goals
        cases b6
        case true =>
          have HI := Lib.hid (HYL.out (HOK6.out.1 rfl))
          go_wp2_with fail
          go_ret
          exact ⟨⟨false, rfl, by simp [HI.out]⟩, HB2.out.trans (HB6.out.mono hs2)⟩
        case false =>
          have HI := Lib.hid (HNL.out (fun h => by have := HOK6.out.2 h; cases this))
          go_wp2_with fail
          go_roundw
          case rel => exact ⟨q + 1, by omega, by go_num, HB6.out, HI.out⟩
          case measure => simp [intOf]; omega
    · have e : q = ys.length := by omega
      rw [e] at hno
      have HI := Lib.hid (HNO.out hno)
      clear hb hno e
      go_wp2_with fail
      go_ret
      exact ⟨⟨true, rfl, by simp [HI.out]⟩, HB2.out.trans (HB.out.mono hs2)⟩

end Go.Proofs.Ytcmibhechhcpiaa

namespace Go.Proofs.Ytcmibhechhcpiaa
open Go.RowKit

set_option maxRecDepth 100000 in
set_option maxHeartbeats 4000000 in
theorem pImplies_any (n : Int) (xs : List Tst) (A : Option Addr) (c : Nat) (x : Tst) (w : World) (hl : xs.length ≤ maxLen) (hT : Tsts w w.heap.size A xs) :
    Calls Try.prog 32 #[.int .i64 n, .slice A xs.length c, tval x] w fun e w' => Below w.heap.size w w' ∧
      ((validS n xs ≠ 0 ∧ e = .returned (.tuple #[.bool false, .int .i64 (validS n xs)])) ∨
       (validS n xs = 0 ∧ oneS n x ≠ 0 ∧ e = .returned (.tuple #[.bool false, .int .i64 (oneS n x)])) ∨
       (validS n xs = 0 ∧ oneS n x = 0 ∧ ∃ b : Bool, e = .returned (.tuple #[.bool b, .int .i64 0]) ∧ (b = true ↔ Impl (arcsL xs) (arcsL [x])))) := by
  have HVu := Lib.hid (fun u hu => pvalid_any n xs A c u hl hu)
  have HT := Lib.hid hT
  have HB0 := Lib.hid (fun (o : Obj) => (Below.refl w.heap.size w).alloc (Nat.le_refl _) o)
  clear hT
  by_cases hv : validS n xs = 0
  · rw [hv] at HVu
    have HOu := Lib.hid (fun u => check1_any n x u)
    obtain ⟨k, lv, la, rv, ra⟩ := x
    have HBX : Hid (∀ u, Below (w.heap.size + 1) (w.alloc (.cells #[.int .i64 k, .int .i64 lv, .int .i64 la, .int .i64 rv, .int .i64 ra] 32 (0, 0))) u → u.cell? ⟨w.heap.size, 0, none⟩ = some (.int .i64 k) ∧ u.cell? ⟨w.heap.size, 1, none⟩ = some (.int .i64 lv) ∧ u.cell? ⟨w.heap.size, 2, none⟩ = some (.int .i64 la) ∧ u.cell? ⟨w.heap.size, 3, none⟩ = some (.int .i64 rv) ∧ u.cell? ⟨w.heap.size, 4, none⟩ = some (.int .i64 ra)) := Lib.hid fun u hu => by
      refine ⟨(hu.cell (p := ⟨w.heap.size, 0, none⟩) (by simp)).trans (by simp), (hu.cell (p := ⟨w.heap.size, 1, none⟩) (by simp)).trans (by simp), (hu.cell (p := ⟨w.heap.size, 2, none⟩) (by simp)).trans (by simp), (hu.cell (p := ⟨w.heap.size, 3, none⟩) (by simp)).trans (by simp), (hu.cell (p := ⟨w.heap.size, 4, none⟩) (by simp)).trans (by simp)⟩
    by_cases ho : oneS n ⟨k, lv, la, rv, ra⟩ = 0
    · obtain ⟨⟨hn0, hn12⟩, hl40, hg⟩ := validS_zero.1 hv
      have hgx : Good n (⟨k, lv, la, rv, ra⟩ : Tst) := one_zero.1 ho
      rw [ho] at HOu
      obtain ⟨m, rfl⟩ : ∃ m : Nat, n = m := ⟨n.toNat, by omega⟩
      have HD := Lib.hid (fun u hu => pimplies_any m xs A c ⟨k, lv, la, rv, ra⟩ u (by omega) hl40 hg hgx hu)
      have hv0 := hv
      have ho0 := ho
      clear hg hgx hv ho hn0 hn12
      go_enter Try.func32, Try.ntmps32
      go_wp2_with fail
      refine (HVu.out _ (Reads.up HT.out (HB0.out _))).mono ?_
      rintro e w1 ⟨rfl, hb1⟩
      have HB1 := Lib.hid (below_one hb1)
      obtain ⟨p0, p1, p2, p3, p4⟩ := HBX.out w1 HB1.out
      clear hb1 HVu
      go_wp2_with fail
      refine (HOu.out _).mono ?_
      rintro e w2 ⟨rfl, hb2⟩
      have HB2 := Lib.hid (HB1.out.trans (hb2.mono (by have := HB1.out.size; simpa using this)))
      clear hb2 HOu p0 p1 p2 p3 p4
      obtain ⟨p0, p1, p2, p3, p4⟩ := HBX.out w2 HB2.out
      go_wp2_with fail
      refine (HD.out _ (Reads.up HT.out ((HB0.out _).trans (HB2.out.mono (by omega))))).mono ?_
      rintro e w3 ⟨⟨b, rfl, hbi⟩, hb3⟩
      have hsz2 : w.heap.size + 1 ≤ w2.heap.size := by have := HB2.out.size; simpa using this
      have HB3 := Lib.hid ((HB0.out _).trans ((HB2.out.trans (hb3.mono hsz2)).mono (by omega)))
      have HBI := Lib.hid hbi
      clear hb3 hbi HD p0 p1 p2 p3 p4
      go_wp2_with fail
      go_ret2
      exact ⟨HB3.out, .inr (.inr ⟨hv0, ho0, b, rfl, HBI.out⟩)⟩
    · generalize oneS n ⟨k, lv, la, rv, ra⟩ = e1 at HOu ho ⊢
      have t1 : ((e1 : Int) != 0) = true := by simp; omega
      go_enter Try.func32, Try.ntmps32
      go_wp2_with fail
      refine (HVu.out _ (Reads.up HT.out (HB0.out _))).mono ?_
      rintro e w1 ⟨rfl, hb1⟩
      have HB1 := Lib.hid (below_one hb1)
      obtain ⟨p0, p1, p2, p3, p4⟩ := HBX.out w1 HB1.out
      clear hb1 HVu
      go_wp2_with fail
      refine (HOu.out _).mono ?_
      rintro e w2 ⟨rfl, hb2⟩
      have HB2 := Lib.hid ((HB0.out _).trans ((HB1.out.trans (hb2.mono (by have := HB1.out.size; simpa using this))).mono (by omega)))
      clear hb2 HOu p0 p1 p2 p3 p4
      go_wp2_with fail
      go_ret2
      exact ⟨HB2.out, .inr (.inl ⟨hv, ho, rfl⟩)⟩
  · generalize validS n xs = e1 at HVu hv ⊢
    have t1 : ((e1 : Int) != 0) = true := by simp; omega
    go_enter Try.func32, Try.ntmps32
    go_wp2_with fail
    refine (HVu.out _ (Reads.up HT.out (HB0.out _))).mono ?_
    rintro e w1 ⟨rfl, hb1⟩
    have HB1 := Lib.hid ((HB0.out _).trans ((below_one hb1).mono (by omega)))
    clear hb1
    go_wp2_with fail
    go_ret2
    exact ⟨HB1.out, .inl ⟨hv, rfl⟩⟩

end Go.Proofs.Ytcmibhechhcpiaa
