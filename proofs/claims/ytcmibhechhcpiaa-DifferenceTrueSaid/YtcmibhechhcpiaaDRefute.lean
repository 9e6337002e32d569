/-
  Difference: Refute of the reference.
-/
import Derived.Test.YtcmibhechhcpiaaDStack
import Derived.Test.YtcmibhechhcpiaaDMath
namespace Go.Proofs.Ytcmibhechhcpiaa
open Go.RowKit

def lenV : Value → Nat
  | .slice _ n _ => n
  | _ => 0
theorem infoUse : (Try.prog.info? 46).map (fun i => (i.zero, i.size, i.bytes)) = some (some (.agg #[.int .i64 0, .int .i64 0]), 2, 16) := by kernel_rfl
abbrev OwnU (w : World) (base : Nat) (v : Value) (xs : List (Int × Int)) : Prop := OwnE EUse 46 w base v xs
abbrev Uses (w : World) (B : Nat) (A : Option Addr) (xs : List (Int × Int)) : Prop := Reads EUse w B A xs
theorem wpList_append_use {w : World} {ops : Array Oper} {rest : List Oper} {o : Oper} {a : Act} {Q : Exit → Act → World → Prop} (hgd : o.guard = none) (s x : Operand)
    (ho : o.op = .call { callee := .builtin .append, args := #[s, x], argTypes := #[39, 39] })
    (base : Nat) (v : Value) (xs : List (Int × Int)) (hs : a.eval s = v) (hown : OwnU w base v xs) (g c : Nat) (m : Int × Int) (hx : a.eval x = .slice (some ⟨g, 0, none⟩) 1 c)
    (hc : w.heap[g]? = some (.cells #[.int .i64 m.1, .int .i64 m.2] 46 (0, 0))) (hl : xs.length ≤ 1000000) (hbase : base ≤ w.heap.size)
    (hK : ∀ v' w', OwnU w' base v' (xs ++ [m]) → w.grownBy w' v.ownBlock → Below base w w' → wpList Try.prog ops Q rest (a.put o.dst v') w') : wpList Try.prog ops Q (o :: rest) a w :=
  wpList_append_E (E := EUse) hgd s x 39 46 ho Try.underlying39 infoUse rfl (by decide) (by decide) base v xs hs hown ⟨g, 0, none⟩ c m hx (news_of (E := EUse) hc rfl) hl hbase hK

theorem OwnS.owner {w : World} {base m n : Nat} {v : Value} {F : Nat → Nat → Nat → Int} (h : OwnS w base v m n F) : ∃ hs, OwnE (EHd n) 72 w base v hs := by
  obtain ⟨hs, _, h2, _⟩ := h
  exact ⟨hs, h2⟩
theorem OwnM.pos {w : World} {base m n : Nat} {v : Value} {f : Nat → Nat → Int} (h : OwnM w base v (m + 1) n f) : ∃ b c, v = .slice (some ⟨b, 0, none⟩) (m + 1) c := by
  obtain ⟨b, c, _, _, e, _⟩ := h.at (k := 0) (by omega)
  exact ⟨b, c, e⟩

set_option maxRecDepth 100000 in
set_option maxHeartbeats 4000000 in
theorem refute_any (n : Int) (xs : List Tst) (A : Option Addr) (c : Nat) (w : World) (hl : xs.length ≤ maxLen) (hT : Tsts w w.heap.size A xs) :
    Calls Try.prog 23 #[.int .i64 n, .slice A xs.length c] w fun e w' => Below w.heap.size w w' ∧
      ((validS n xs ≠ 0 ∧ e = .returned (.tuple #[.slice none 0 0, .int .i64 (validS n xs)])) ∨
       (validS n xs = 0 ∧ OkB n.toNat (arcsL xs) ∧ e = .returned (.tuple #[.slice none 0 0, .int .i64 10])) ∨
       (validS n xs = 0 ∧ ¬ OkB n.toNat (arcsL xs) ∧ ∃ v r, e = .returned (.tuple #[v, .int .i64 0]) ∧ OwnU w' w.heap.size v (usesOf r) ∧ IsStd (arcsL xs) r ∧ r.length ≤ 13)) := by
  have HV := Lib.hid (valid_any n xs A c w hl hT)
  have HT := Lib.hid hT
  by_cases hv : validS n xs = 0
  · obtain ⟨⟨hn0, hn12⟩, hl40, hg⟩ := validS_zero.1 hv
    obtain ⟨m, rfl⟩ : ∃ m : Nat, n = m := ⟨n.toNat, by omega⟩
    rw [hv] at HV
    have hin := arcs_in hg
    have hsm := arcs_small hg
    have hso : Sorted (arcsL xs) := sorted_arcs xs xs.length
    rw [show ((m : Int)).toNat = m by omega] at hin ⊢
    have hm : m ≤ 12 := by omega
    have HD := Lib.hid (fun u hu => distances_any m xs A c u hm (by omega) hg hu)
    have HAR := Lib.hid (fun u hu => arcs_any m xs A c u (by omega) hg (by omega) hu)
    have hle := arcsF_len xs xs.length
    have hll : (arcsL xs).length ≤ 1000 := by unfold arcsL; omega
    have HQ := Lib.hid (fun u => square_any m far 0 u hm)
    have HS0 := Lib.hid (show sqM far 0 = sumK (arcsL xs) 0 by funext i j; rfl)
    have hv0 := hv
    clear hT hg hv hn0 hn12 hle
    generalize arcsL xs = l at HD HAR HQ HS0 hin hsm hso hll ⊢
    have HF := Lib.hid (fun (A : Option Addr) (c : Nat) (vs : Value) (k : Nat) (hk : k ≤ 100) (b0 : Nat) (u : World) (h1 : Arcs u u.heap.size A l) (h2 : OwnM u b0 vs (m + 1) (m + 1) (sumK l k)) =>
      further_any m l A c vs (sumK l k) b0 u hm hll hin hsm (sumK_bnd hsm hk) h1 h2)
    have HEX := Lib.hid (hasNeg_ex hin hm hsm)
    have HSTD := Lib.hid (fun k hk h1 h2 => walk_std (k := k) hin hsm hso hk h1 h2)
    have HIN := Lib.hid hin
    have HSM := Lib.hid hsm
    have HBN := Lib.hid (fun k hk => sumK_bnd (k := k) hsm hk)
    clear hin hsm hso
    go_enter Try.func23, Try.ntmps23
    go_wp2_with fail
    refine HV.out.mono ?_
    rintro e w1 ⟨rfl, hb1⟩
    have HT1 := Lib.hid (Reads.up HT.out hb1)
    have HB1 := Lib.hid hb1
    clear hb1
    go_wp2_with fail
    refine (HD.out _ HT1.out).mono ?_
    rintro e w2 ⟨hb2, h2⟩
    have HT2 := Lib.hid (Reads.up HT1.out hb2)
    have HB2 := Lib.hid (HB1.out.trans (hb2.mono HB1.out.size))
    clear hb2
    rcases h2 with ⟨hok, vd, rfl, hd⟩ | ⟨hok, rfl⟩
    case inl =>
      have HOK := Lib.hid hok
      clear hok hd
      go_wp2_with fail
      go_ret2
      exact ⟨HB2.out, .inr (.inl ⟨hv0, HOK.out, rfl⟩)⟩
    have HOK := Lib.hid hok
    have HEK := Lib.hid (HEX.out hok)
    clear hok
    go_wp2_with fail
    refine (HAR.out _ HT2.out).mono ?_
    rintro e w3 ⟨va, rfl, ha, hb3⟩
    obtain ⟨Aa, ca, rfl⟩ := OwnE.slice ha
    have HB3 := Lib.hid (HB2.out.trans (hb3.mono HB2.out.size))
    have HA3 := Lib.hid (ha.mono HB2.out.size)
    clear ha hb3
    go_wp2_with fail
    refine (HQ.out _).mono ?_
    rintro e w4 ⟨v0, rfl, h0, hb4⟩
    have HB4 := Lib.hid (HB3.out.trans (hb4.mono HB3.out.size))
    have HA4 := Lib.hid (HA3.out.below hb4 (Nat.le_refl _))
    have HM4 := Lib.hid (h0.mono HB3.out.size)
    obtain ⟨b0, c0, rfl⟩ := OwnM.pos h0
    clear h0 hb4 HA3 HT1 HT2
    go_wp2_with fail
    go_loopw [10, 11] (fun vs bs wr => ∃ (K : Nat) (b : Bool), K ≤ m + 1 ∧ OwnS wr w.heap.size vs (K + 1) (m + 1) (sumK l) ∧ bs = .bool b ∧ (b = true → hasNeg m l K) ∧ (∀ j, j ≤ K → (j < K ∨ b = false) → ¬ hasNeg m l j) ∧ OwnA wr w.heap.size (.slice Aa l.length ca) l ∧ Below w.heap.size w wr) (fun vs _ _ => m + 3 - lenV vs)
    case atStart =>
      refine ⟨0, false, Nat.zero_le _, (OwnS.one HM4.out HB4.out.size).ext (fun k hk => ?_), rfl, (fun h => by cases h), (fun j hj _ => ?_), HA4.out.alloc _, HB4.out.alloc HB4.out.size _⟩
      · rw [show k = 0 by omega]; exact HS0.out
      · rw [show j = 0 by omega]; exact hasNeg_zero m l
    case round =>
      obtain ⟨K, b, hK, hS, rfl, hpos, hno, hA, hB⟩ := hrel
      have hBs := hB.size
      cases b
      case false =>
        obtain ⟨wo, hwo⟩ : ∃ wo, wo = wr := ⟨_, rfl⟩
        subst hwo
        have hK1 : K + 1 ≤ m + 1 := by
          obtain ⟨k, hk, hk2⟩ := HEK.out
          rcases Nat.lt_or_ge K k with h | h
          · omega
          · exact absurd hk2 (hno k h (.inr rfl))
        have HNO := Lib.hid (fun j hj => hno j hj (.inr rfl))
        obtain ⟨b1, c1, g1, e1, hv1, _, m1, hM⟩ := hS.at (k := K) (by omega)
        have HFK := Lib.hid (HF.out Aa ca _ K (by omega) _ wo hA.read hM)
        have HS := Lib.hid hS
        have HA := Lib.hid hA
        have HB := Lib.hid hB
        have k0 : (0 : Int) ≤ (K : Int) := by omega
        have k1 : (K : Int) < (K : Int) + 1 := by omega
        have k2 : ((K : Int)).toNat = K := by omega
        have k3 : (K : Int) + 1 - 1 = (K : Int) := by omega
        subst hv1
        clear hS hA hB hpos hno hM
        go_wp2_with fail
        refine HFK.out.mono ?_
        rintro e w5 ⟨v5, rfl, h5, hb5⟩
        obtain ⟨b5, c5, rfl⟩ := OwnM.pos h5
        have HM5 := Lib.hid (h5.mono hBs)
        have HS5 := Lib.hid (HS.out.below hb5 (Nat.le_refl _))
        have HA5 := Lib.hid (HA.out.below hb5 (Nat.le_refl _))
        have HB5 := Lib.hid (HB.out.trans (hb5.mono hBs))
        have hsz5 := HB5.out.size
        clear h5 hb5 HFK HS HA HB k0 k1 k2 k3 m1
        go_wp2_with (at_builtin; refine wpList_append_mat (w := w5.alloc _) rfl _ _ rfl w.heap.size _ (K + 1) (m + 1) (sumK l) rfl ?y1 w5.heap.size 1 rfl b5 c5 (fwd l (sumK l K)) ?y2 ?y3 ?y4 ?y5 ?_)
        case y1 => exact HS5.out.alloc _
        case y2 => simp
        case y3 => exact HM5.out.alloc _
        case y4 => omega
        case y5 => simp; omega
        intro v6 w6 hS6 hM6 hg6 hb6
        obtain ⟨hds, hown5⟩ := (HS5.out.alloc (.cells #[.slice (some ⟨b5, 0, none⟩) (m + 1) c5] 72 (0, 0))).owner
        have HA6 := Lib.hid ((HA5.out.alloc (.cells #[.slice (some ⟨b5, 0, none⟩) (m + 1) c5] 72 (0, 0))).kept hg6 (own_apart (by decide) (HA5.out.alloc _) hown5))
        have HM6 := Lib.hid (hM6 _ (HM5.out.alloc _))
        have HS6 := Lib.hid (hS6.ext (G := sumK l) (fun k hk => by
          by_cases e : k = K + 1
          · rw [if_pos e, e]; rfl
          · rw [if_neg e]))
        have HB6 := Lib.hid ((HB5.out.alloc hsz5 _).trans hb6)
        clear hS6 hM6 hg6 hb6 hown5 HM5 HS5 HA5 HB5
        go_wp2_with fail
        go_loopw [11, 13] (fun bs ii ws => ∃ (i : Nat) (b : Bool), i ≤ m + 1 ∧ ii = .int .i64 i ∧ bs = .bool b ∧ (b = true ↔ ∃ a, a < i ∧ fwd l (sumK l K) a a < 0) ∧ ws = w6) (fun _ ii _ => m + 1 - (intOf ii).toNat)
        case atStart => exact ⟨0, false, Nat.zero_le _, rfl, rfl, by simp, rfl⟩
        case round =>
          obtain ⟨i, b, hi, rfl, rfl, hbi, rfl⟩ := hrel
          by_cases hli : i ≤ m
          · have t2 : decide ((i : Int) ≤ (m : Int)) = true := decide_eq_true (by omega)
            obtain ⟨b7, c7, g7, e7, hv7, _, _, n1, _, _, n4, _⟩ := HM6.out.at (k := i) (by omega)
            have n4 := n4 i (by omega)
            simp only [Value.slice.injEq, Option.some.injEq, Addr.mk.injEq, true_and, and_true] at hv7
            obtain ⟨rfl, rfl⟩ := hv7
            have HBI := Lib.hid hbi
            have f0 : (0 : Int) ≤ (i : Int) := by omega
            have f1 : (i : Int) < (m : Int) + 1 := by omega
            have f2 : ((i : Int)).toNat = i := by omega
            clear hbi
            cases b
            case true =>
              have HX : Hid (true = true ↔ ∃ a, a < i + 1 ∧ fwd l (sumK l K) a a < 0) := Lib.hid ⟨fun _ => by obtain ⟨a, h1, h2⟩ := HBI.out.1 rfl; exact ⟨a, by omega, h2⟩, fun _ => rfl⟩
              clear n1 n4
              go_wp2_with fail
              go_roundw
              case rel => exact ⟨i + 1, true, by omega, by go_num, rfl, HX.out, trivial⟩
              case measure => simp [intOf]; omega
            case false =>
              by_cases hz : fwd l (sumK l K) i i < 0
              · have HX : Hid (true = true ↔ ∃ a, a < i + 1 ∧ fwd l (sumK l K) a a < 0) := Lib.hid ⟨fun _ => ⟨i, by omega, hz⟩, fun _ => rfl⟩
                generalize fwd l (sumK l K) i i = z at n4 hz
                have t3 : decide (z < 0) = true := decide_eq_true hz
                go_wp2_with fail
                go_roundw
                case rel => exact ⟨i + 1, true, by omega, by go_num, rfl, HX.out, trivial⟩
                case measure => simp [intOf]; omega
              · have HX : Hid (false = true ↔ ∃ a, a < i + 1 ∧ fwd l (sumK l K) a a < 0) := Lib.hid ⟨fun h => (by cases h), fun ⟨a, h1, h2⟩ => by
                  by_cases e : a = i
                  · rw [e] at h2; exact absurd h2 hz
                  · exact HBI.out.2 ⟨a, by omega, h2⟩⟩
                generalize fwd l (sumK l K) i i = z at n4 hz
                have t3 : decide (z < 0) = false := decide_eq_false hz
                clear hz
                go_wp2_with fail
                go_roundw
                case rel => exact ⟨i + 1, false, by omega, by go_num, rfl, HX.out, trivial⟩
                case measure => simp [intOf]; omega
          · have t2 : decide ((i : Int) ≤ (m : Int)) = false := decide_eq_false (by omega)
            have e : i = m + 1 := by omega
            subst e
            have HX : Hid (b = true ↔ hasNeg m l (K + 1)) := Lib.hid ⟨fun h => by obtain ⟨a, h1, h2⟩ := hbi.1 h; exact ⟨a, by omega, h2⟩, fun ⟨a, h1, h2⟩ => hbi.2 ⟨a, by omega, h2⟩⟩
            clear hbi
            go_wp2_with fail
            go_roundw
            case rel =>
              refine ⟨K + 1, b, hK1, HS6.out, rfl, HX.out.1, fun j hj h => ?_, HA6.out, HB6.out⟩
              by_cases e : j ≤ K
              · exact HNO.out j e
              · rcases h with h | h
                · omega
                · intro h2
                  rw [show j = K + 1 by omega] at h2
                  rw [HX.out.2 h2] at h
                  cases h
            case measure =>
              obtain ⟨A6, c6, rfl⟩ := HS6.out.slice
              simp [lenV]; omega
      case true =>
        have hKp : 1 ≤ K := by
          rcases Nat.lt_or_ge 0 K with h | h
          · omega
          · exact absurd (hpos rfl) (by rw [show K = 0 by omega]; exact hasNeg_zero m l)
        have HRES := Lib.hid (HSTD.out (K - 1) (by omega) (by rw [show K - 1 + 1 = K by omega]; exact hpos rfl) (fun j hj => hno j (by omega) (.inl (by omega))))
        rw [show K - 1 + 1 = K by omega] at HRES
        obtain ⟨b1, c1, _, _, hv1, _⟩ := hS.at (k := 0) (by omega)
        subst hv1
        have HS := Lib.hid hS
        have HA := Lib.hid hA
        have HB := Lib.hid hB
        have k1 : (K : Int) + 1 - 2 = (K : Int) - 1 := by omega
        clear hS hA hB hpos hno HF HEX HEK HSTD HQ HD HAR HV HS0 HB1 HB2 HB3 HB4 HA4 HM4
        generalize hW : walkU l K (-1) (-1) 0 = W at HRES
        go_wp2_with fail
        obtain ⟨wk, hwk⟩ : ∃ wk, wk = wr := ⟨_, rfl⟩
        subst hwk
        go_loopw [14, 15, 16, 17, 18] (fun uo us ua uq ul wr => ∃ (j : Nat) (lv sv av q : Int) (pre : List Arc), j ≤ K ∧ ul = .int .i64 lv ∧ lv = (j : Int) - 1 ∧ us = .int .i64 sv ∧ ua = .int .i64 av ∧ uq = .int .i64 q ∧ (sv = -1 ∨ (0 ≤ sv ∧ sv ≤ (m : Int))) ∧ (-(2000001 * ((K : Int) - j)) ≤ q ∧ q ≤ 2000001 * ((K : Int) - j)) ∧
            pre.length + j ≤ K ∧ pre ++ walkU l j sv av q = W ∧ OwnU wr w.heap.size uo (usesOf pre) ∧ OwnA wr w.heap.size (.slice Aa l.length ca) l ∧ OwnS wr w.heap.size (.slice (some ⟨b1, 0, none⟩) (K + 1) c1) (K + 1) (m + 1) (sumK l) ∧ Below w.heap.size w wr) (fun _ _ _ _ ul _ => (intOf ul + 1).toNat)
        case atStart => exact ⟨K, _, -1, -1, 0, [], Nat.le_refl _, rfl, rfl, rfl, rfl, rfl, .inl rfl, by omega, by simp, by simpa using hW, OwnE.nil _ _ _, HA.out, HS.out, HB.out⟩
        case round =>
          obtain ⟨j, lv, sv, av, q, pre, hj, rfl, hlv, rfl, rfl, rfl, hsv, hq, hpre, hw, hU, hA, hS, hB⟩ := hrel
          cases j with
          | zero =>
            have e : lv = -1 := by omega
            subst e
            have HX := Lib.hid (show pre = W by simpa [walkU] using hw)
            have HU := Lib.hid hU
            have HB' := Lib.hid hB
            clear hw hU hA hS hB hlv hq hsv
            go_wp2_with fail
            go_ret2
            exact ⟨HB'.out, .inr (.inr ⟨hv0, HOK.out, _, W, rfl, by rw [← HX.out]; exact HU.out, HRES.out.1, by have := HRES.out.2; omega⟩)⟩
          | succ j =>
            have e : lv = (j : Int) := by omega
            subst e
            obtain ⟨Au, cu, rfl⟩ := OwnE.slice hU
            have HW := Lib.hid hw
            have HU := Lib.hid hU
            have HA' := Lib.hid hA
            have HS' := Lib.hid hS
            have HB' := Lib.hid hB
            clear hw hU hA hS hB hlv
            go_wp2_with fail
            go_loopw [14, 15, 16, 17, 19] (fun uo us ua uq ui ws => ∃ i : Nat, i ≤ l.length ∧ ui = .int .i64 i ∧ uo = .slice Au (usesOf pre).length cu ∧ us = .int .i64 sv ∧ ua = .int .i64 av ∧ uq = .int .i64 q ∧ (∀ a ∈ l.take i, selB l j sv av q a = false) ∧
                OwnU ws w.heap.size (.slice Au (usesOf pre).length cu) (usesOf pre) ∧ OwnA ws w.heap.size (.slice Aa l.length ca) l ∧ OwnS ws w.heap.size (.slice (some ⟨b1, 0, none⟩) (K + 1) c1) (K + 1) (m + 1) (sumK l) ∧ Below w.heap.size w ws) (fun _ _ _ _ ui _ => l.length - (intOf ui).toNat)
            case atStart => exact ⟨0, Nat.zero_le _, rfl, rfl, rfl, rfl, rfl, (fun a ha => by simp at ha), HU.out, HA'.out, HS'.out, HB'.out⟩
            case round =>
              obtain ⟨i, hi, rfl, rfl, rfl, rfl, rfl, hsel, hU, hA, hS, hB⟩ := hrel
              by_cases hlt : i < l.length
              · have hsz := hB.size
                obtain ⟨b, off, rfl, hbb, k0, k1, k2, k3, k4⟩ := Arcs.cells hA.read hlt
                have HI := Lib.hid (HIN.out _ (List.getElem_mem hlt))
                have HC := Lib.hid (HSM.out _ (List.getElem_mem hlt))
                have HSK : Hid (selB l j sv av q l[i] = false → ∀ a ∈ l.take (i + 1), selB l j sv av q a = false) := Lib.hid fun h a ha => by
                  rw [List.take_succ_eq_append_getElem hlt, List.mem_append] at ha
                  rcases ha with ha | ha
                  · exact hsel a ha
                  · simp at ha; rw [ha]; exact h
                have HYS : Hid (selB l j sv av q l[i] = true → walkU l (j + 1) sv av q = l[i] :: walkU l j (fstN l[i] sv) l[i].g (q + l[i].c)) := Lib.hid fun h => walkU_some hlt hsel h
                have HCE : Hid (∀ u, OwnA u w.heap.size (.slice (some ⟨b, off, none⟩) l.length ca) l → u.cell? ⟨b, off + i * 5 + 3, none⟩ = some (.int .i64 l[i].g) ∧ u.cell? ⟨b, off + i * 5 + 4, none⟩ = some (.int .i64 l[i].c)) := Lib.hid fun u hu => by
                  obtain ⟨b', off', hE, _, _, _, _, z3, z4⟩ := Arcs.cells hu.read hlt
                  simp only [Option.some.injEq, Addr.mk.injEq, and_true] at hE
                  obtain ⟨rfl, rfl⟩ := hE
                  exact ⟨z3, z4⟩
                have i0 : (0 : Int) ≤ (i : Int) := by omega
                have i1 : (i : Int) < (l.length : Int) := by omega
                have i2 : ((i : Int)).toNat = i := by omega
                have j0 : (0 : Int) ≤ (j : Int) := by omega
                have j1 : (j : Int) < (K : Int) + 1 := by omega
                have j2 : ((j : Int)).toNat = j := by omega
                generalize l[i] = a at k0 k1 k2 k3 k4 HI HC HSK HYS HCE
                obtain ⟨xt, xo, xf, xg, xc⟩ := a
                dsimp only at k0 k1 k2 k3 k4 HI HC HSK HYS HCE
                have HU1 := Lib.hid hU
                have HA1 := Lib.hid hA
                have HS1 := Lib.hid hS
                have HB1 := Lib.hid hB
                obtain ⟨hf, hg⟩ := HI.out
                obtain ⟨hc1, hc2⟩ := HC.out
                clear hsel hU hA hS hB HI HC
                have hcase : (0 ≤ sv ∧ (xf : Int) ≠ av) ∨ (∃ s0 : Nat, sv = s0 ∧ s0 ≤ m ∧ av = xf) ∨ sv = -1 := by
                  rcases hsv with h | ⟨h1, h2⟩
                  · exact .inr (.inr h)
                  · by_cases h3 : (xf : Int) = av
                    · exact .inr (.inl ⟨sv.toNat, by omega, by omega, h3.symm⟩)
                    · exact .inl ⟨h1, h3⟩
                rcases hcase with ⟨hs0, hne⟩ | ⟨s0, rfl, hs0, rfl⟩ | rfl
                · have HX := Lib.hid (HSK.out (by unfold selB; rw [decide_eq_false (show ¬ sv < 0 by omega), decide_eq_false hne]; rfl))
                  have t1 : decide (0 ≤ sv) = true := decide_eq_true hs0
                  have t2 : ((xf : Int) != av) = true := by simp [bne, hne]
                  clear hne HSK HYS HCE
                  go_wp2_with fail
                  go_roundw
                  case rel => exact ⟨i + 1, by omega, by go_num, rfl, rfl, rfl, rfl, HX.out, HU1.out, HA1.out, HS1.out, HB1.out⟩
                  case measure => simp [intOf]; omega
                · have t1 : decide ((0 : Int) ≤ (s0 : Int)) = true := decide_eq_true (by omega)
                  have t1' : decide ((s0 : Int) < 0) = false := decide_eq_false (by omega)
                  have HSE : Hid (selB l j ((s0 : Nat) : Int) (xf : Int) q ⟨xt, xo, xf, xg, xc⟩ = (decide (sumK l j xg s0 < far) && decide (q + xc + sumK l j xg s0 < 0))) := Lib.hid (by unfold selB fstN; rw [if_neg (by omega), decide_eq_true rfl, Bool.or_true, Bool.true_and, Int.toNat_natCast])
                  have FN : fstN ⟨xt, xo, xf, xg, xc⟩ ((s0 : Nat) : Int) = s0 := by unfold fstN; rw [if_neg (by omega), Int.toNat_natCast]
                  rw [FN] at HYS
                  clear FN
                  obtain ⟨bS, cS, gM, cM, hvS, hbS, mS, hM⟩ := HS1.out.at (k := j) (by omega)
                  simp only [Value.slice.injEq, Option.some.injEq, Addr.mk.injEq, true_and, and_true] at hvS
                  obtain ⟨rfl, rfl⟩ := hvS
                  obtain ⟨bM, cM', gR, eR, hvM, _, _, mM, _, _, nR, _⟩ := hM.at (k := xg) (by omega)
                  simp only [Value.slice.injEq, Option.some.injEq, Addr.mk.injEq, true_and, and_true] at hvM
                  obtain ⟨rfl, rfl⟩ := hvM
                  have nR := nR s0 (by omega)
                  obtain ⟨z1, z2⟩ := HBN.out j (by omega) xg s0
                  have g0 : (0 : Int) ≤ (xg : Int) := by omega
                  have g1 : (xg : Int) < (m : Int) + 1 := by omega
                  have g2 : ((xg : Int)).toNat = xg := by omega
                  have f0 : (0 : Int) ≤ (s0 : Int) := by omega
                  have f1 : (s0 : Int) < (m : Int) + 1 := by omega
                  have f2 : ((s0 : Int)).toNat = s0 := by omega
                  unfold far at z2 HSE
                  generalize sumK l j xg s0 = z at nR z1 z2 HSE
                  clear hM
                  by_cases hz : z < 1125899906842624
                  · have t3 : decide (z < 1125899906842624) = true := decide_eq_true hz
                    by_cases hn : q + xc + z < 0
                    · have t4 : decide (q + xc + z < 0) = true := decide_eq_true hn
                      have HX := Lib.hid (HYS.out (by rw [HSE.out, t3, t4]; rfl))
                      clear HSK HYS HSE
                      go_wp2_with fail
                      go_region
                      go_wp2_with (at_builtin; refine wpList_append_use (w := World.drew _) rfl _ _ rfl w.heap.size _ (usesOf pre) rfl ?y1 wr.heap.size 1 ((xt : Int), xo) rfl ?y2 ?y3 ?y4 ?_)
                      case y1 => exact (HU1.out.alloc _).below (Below.drew (Below.refl _ _)) (Nat.le_refl _)
                      case y2 => simp [World.alloc, World.drew, -World.alloc_eq]
                      case y3 => rw [usesOf_len]; omega
                      case y4 => simp; omega
                      intro v1 w1 hown1 hg1 hb1
                      have hD : Below (wr.alloc (.cells #[.int .i64 xt, .int .i64 xo] 46 (0, 0))).heap.size (wr.alloc (.cells #[.int .i64 xt, .int .i64 xo] 46 (0, 0))) (wr.alloc (.cells #[.int .i64 xt, .int .i64 xo] 46 (0, 0))).drew := Below.drew (Below.refl _ _)
                      have HA2 := Lib.hid (((HA1.out.alloc _).below hD (Nat.le_refl _)).kept hg1 (own_apart (by decide) ((HA1.out.alloc _).below hD (Nat.le_refl _)) ((HU1.out.alloc _).below hD (Nat.le_refl _))))
                      have HS2 := Lib.hid (((HS1.out.alloc _).below hD (Nat.le_refl _)).kept ((HU1.out.alloc _).below hD (Nat.le_refl _)) (by decide) (by decide) (by decide) hg1)
                      have HU2 := Lib.hid hown1
                      clear hD
                      have HB2 := Lib.hid ((Below.drew (HB1.out.alloc hsz _)).trans hb1)
                      obtain ⟨k3', k4'⟩ := HCE.out w1 HA2.out
                      clear hown1 hg1 hb1 HCE k0 k1 k2 k3 k4 mS mM nR HU1 HA1 HS1 HB1
                      go_wp2_with fail
                      go_region
                      go_wp2_with fail
                      go_roundw
                      case rel => exact ⟨j, (j : Int) - 1, s0, xg, q + xc, pre ++ [⟨xt, xo, xf, xg, xc⟩], by omega, by go_num, rfl, by go_num, by go_num, by go_num, .inr ⟨by omega, by omega⟩, by omega, by simp; omega, by rw [List.append_assoc, List.singleton_append, ← HX.out]; exact HW.out,
                        by rw [usesOf_snoc]; exact HU2.out.below (Below.drew (Below.refl _ _)) (Nat.le_refl _), HA2.out.below (Below.drew (Below.refl _ _)) (Nat.le_refl _), HS2.out.below (Below.drew (Below.refl _ _)) (Nat.le_refl _), Below.drew HB2.out⟩
                      case measure => simp [intOf]
                    · have t4 : decide (q + xc + z < 0) = false := decide_eq_false hn
                      have HX := Lib.hid (HSK.out (by rw [HSE.out, t3, t4]; rfl))
                      clear HSK HYS HSE HCE hn
                      go_wp2_with fail
                      go_region
                      go_wp2_with fail
                      go_roundw
                      case rel => exact ⟨i + 1, by omega, by go_num, rfl, rfl, rfl, rfl, HX.out, HU1.out.below (Below.drew (Below.refl _ _)) (Nat.le_refl _), HA1.out.below (Below.drew (Below.refl _ _)) (Nat.le_refl _), HS1.out.below (Below.drew (Below.refl _ _)) (Nat.le_refl _), Below.drew HB1.out⟩
                      case measure => simp [intOf]; omega
                  · have t3 : decide (z < 1125899906842624) = false := decide_eq_false hz
                    have HX := Lib.hid (HSK.out (by rw [HSE.out, t3]; rfl))
                    clear HSK HYS HSE HCE hz
                    go_wp2_with fail
                    go_region
                    go_wp2_with fail
                    go_roundw
                    case rel => exact ⟨i + 1, by omega, by go_num, rfl, rfl, rfl, rfl, HX.out, HU1.out.below (Below.drew (Below.refl _ _)) (Nat.le_refl _), HA1.out.below (Below.drew (Below.refl _ _)) (Nat.le_refl _), HS1.out.below (Below.drew (Below.refl _ _)) (Nat.le_refl _), Below.drew HB1.out⟩
                    case measure => simp [intOf]; omega
                · have HSE : Hid (selB l j (-1) av q ⟨xt, xo, xf, xg, xc⟩ = (decide (sumK l j xg xf < far) && decide (q + xc + sumK l j xg xf < 0))) := Lib.hid (by unfold selB fstN; simp)
                  have FN : fstN ⟨xt, xo, xf, xg, xc⟩ (-1) = xf := by unfold fstN; simp
                  rw [FN] at HYS
                  clear FN
                  obtain ⟨bS, cS, gM, cM, hvS, hbS, mS, hM⟩ := HS1.out.at (k := j) (by omega)
                  simp only [Value.slice.injEq, Option.some.injEq, Addr.mk.injEq, true_and, and_true] at hvS
                  obtain ⟨rfl, rfl⟩ := hvS
                  obtain ⟨bM, cM', gR, eR, hvM, _, _, mM, _, _, nR, _⟩ := hM.at (k := xg) (by omega)
                  simp only [Value.slice.injEq, Option.some.injEq, Addr.mk.injEq, true_and, and_true] at hvM
                  obtain ⟨rfl, rfl⟩ := hvM
                  have nR := nR xf (by omega)
                  obtain ⟨z1, z2⟩ := HBN.out j (by omega) xg xf
                  have g0 : (0 : Int) ≤ (xg : Int) := by omega
                  have g1 : (xg : Int) < (m : Int) + 1 := by omega
                  have g2 : ((xg : Int)).toNat = xg := by omega
                  have f0 : (0 : Int) ≤ (xf : Int) := by omega
                  have f1 : (xf : Int) < (m : Int) + 1 := by omega
                  have f2 : ((xf : Int)).toNat = xf := by omega
                  unfold far at z2 HSE
                  generalize sumK l j xg xf = z at nR z1 z2 HSE
                  clear hM
                  by_cases hz : z < 1125899906842624
                  · have t3 : decide (z < 1125899906842624) = true := decide_eq_true hz
                    by_cases hn : q + xc + z < 0
                    · have t4 : decide (q + xc + z < 0) = true := decide_eq_true hn
                      have HX := Lib.hid (HYS.out (by rw [HSE.out, t3, t4]; rfl))
                      clear HSK HYS HSE
                      go_wp2_with fail
                      go_region
                      go_wp2_with (at_builtin; refine wpList_append_use (w := World.drew _) rfl _ _ rfl w.heap.size _ (usesOf pre) rfl ?y1 wr.heap.size 1 ((xt : Int), xo) rfl ?y2 ?y3 ?y4 ?_)
                      case y1 => exact (HU1.out.alloc _).below (Below.drew (Below.refl _ _)) (Nat.le_refl _)
                      case y2 => simp [World.alloc, World.drew, -World.alloc_eq]
                      case y3 => rw [usesOf_len]; omega
                      case y4 => simp; omega
                      intro v1 w1 hown1 hg1 hb1
                      have hD : Below (wr.alloc (.cells #[.int .i64 xt, .int .i64 xo] 46 (0, 0))).heap.size (wr.alloc (.cells #[.int .i64 xt, .int .i64 xo] 46 (0, 0))) (wr.alloc (.cells #[.int .i64 xt, .int .i64 xo] 46 (0, 0))).drew := Below.drew (Below.refl _ _)
                      have HA2 := Lib.hid (((HA1.out.alloc _).below hD (Nat.le_refl _)).kept hg1 (own_apart (by decide) ((HA1.out.alloc _).below hD (Nat.le_refl _)) ((HU1.out.alloc _).below hD (Nat.le_refl _))))
                      have HS2 := Lib.hid (((HS1.out.alloc _).below hD (Nat.le_refl _)).kept ((HU1.out.alloc _).below hD (Nat.le_refl _)) (by decide) (by decide) (by decide) hg1)
                      have HU2 := Lib.hid hown1
                      clear hD
                      have HB2 := Lib.hid ((Below.drew (HB1.out.alloc hsz _)).trans hb1)
                      obtain ⟨k3', k4'⟩ := HCE.out w1 HA2.out
                      clear hown1 hg1 hb1 HCE k0 k1 k2 k3 k4 mS mM nR HU1 HA1 HS1 HB1
                      go_wp2_with fail
                      go_region
                      go_wp2_with fail
                      go_roundw
                      case rel => exact ⟨j, (j : Int) - 1, xf, xg, q + xc, pre ++ [⟨xt, xo, xf, xg, xc⟩], by omega, by go_num, rfl, by go_num, by go_num, by go_num, .inr ⟨by omega, by omega⟩, by omega, by simp; omega, by rw [List.append_assoc, List.singleton_append, ← HX.out]; exact HW.out,
                        by rw [usesOf_snoc]; exact HU2.out.below (Below.drew (Below.refl _ _)) (Nat.le_refl _), HA2.out.below (Below.drew (Below.refl _ _)) (Nat.le_refl _), HS2.out.below (Below.drew (Below.refl _ _)) (Nat.le_refl _), Below.drew HB2.out⟩
                      case measure => simp [intOf]
                    · have t4 : decide (q + xc + z < 0) = false := decide_eq_false hn
                      have HX := Lib.hid (HSK.out (by rw [HSE.out, t3, t4]; rfl))
                      clear HSK HYS HSE HCE hn
                      go_wp2_with fail
                      go_region
                      go_wp2_with fail
                      go_roundw
                      case rel => exact ⟨i + 1, by omega, by go_num, rfl, rfl, rfl, rfl, HX.out, HU1.out.below (Below.drew (Below.refl _ _)) (Nat.le_refl _), HA1.out.below (Below.drew (Below.refl _ _)) (Nat.le_refl _), HS1.out.below (Below.drew (Below.refl _ _)) (Nat.le_refl _), Below.drew HB1.out⟩
                      case measure => simp [intOf]; omega
                  · have t3 : decide (z < 1125899906842624) = false := decide_eq_false hz
                    have HX := Lib.hid (HSK.out (by rw [HSE.out, t3]; rfl))
                    clear HSK HYS HSE HCE hz
                    go_wp2_with fail
                    go_region
                    go_wp2_with fail
                    go_roundw
                    case rel => exact ⟨i + 1, by omega, by go_num, rfl, rfl, rfl, rfl, HX.out, HU1.out.below (Below.drew (Below.refl _ _)) (Nat.le_refl _), HA1.out.below (Below.drew (Below.refl _ _)) (Nat.le_refl _), HS1.out.below (Below.drew (Below.refl _ _)) (Nat.le_refl _), Below.drew HB1.out⟩
                    case measure => simp [intOf]; omega
              · have e : i = l.length := by omega
                subst e
                rw [List.take_length] at hsel
                have HX := Lib.hid (walkU_none hsel)
                have HU1 := Lib.hid hU
                have HA1 := Lib.hid hA
                have HS1 := Lib.hid hS
                have HB1 := Lib.hid hB
                clear hsel hU hA hS hB
                go_wp2_with fail
                go_roundw
                case rel => exact ⟨j, (j : Int) - 1, sv, av, q, pre, by omega, by go_num, rfl, rfl, rfl, rfl, hsv, by omega, by omega, by rw [← HX.out]; exact HW.out, HU1.out, HA1.out, HS1.out, HB1.out⟩
                case measure => simp [intOf]
  · generalize validS n xs = e1 at HV hv ⊢
    have t1 : ((e1 : Int) != 0) = true := by simp; omega
    clear hT
    go_enter Try.func23, Try.ntmps23
    go_wp2_with fail
    refine HV.out.mono ?_
    rintro e w1 ⟨rfl, hb1⟩
    have HB1 := Lib.hid hb1
    clear hb1
    go_wp2_with fail
    go_ret2
    exact ⟨HB1.out, .inl ⟨hv, rfl⟩⟩

end Go.Proofs.Ytcmibhechhcpiaa
