/-
  Difference, the program: links.
-/
import Derived.Test.YtcmibhechhcpiaaPFind
namespace Go.Proofs.Ytcmibhechhcpiaa
open Go.RowKit

theorem infoLnk : (Try.prog.info? 98).map (fun i => (i.zero, i.size, i.bytes)) = some (some (.agg #[.int .i64 0, .int .i64 0, .int .i64 0, .int .i64 0, .int .i64 0]), 5, 40) := by kernel_rfl
abbrev OwnK (w : World) (base : Nat) (v : Value) (xs : List Arc) : Prop := OwnE EArc 98 w base v xs
theorem wpList_append_lnk {w : World} {ops : Array Oper} {rest : List Oper} {o : Oper} {a : Act} {Q : Exit → Act → World → Prop} (hgd : o.guard = none) (s x : Operand)
    (ho : o.op = .call { callee := .builtin .append, args := #[s, x], argTypes := #[69, 69] })
    (base : Nat) (v : Value) (xs : List Arc) (hs : a.eval s = v) (hown : OwnK w base v xs) (g c : Nat) (m : Arc) (hx : a.eval x = .slice (some ⟨g, 0, none⟩) 1 c)
    (hc : w.heap[g]? = some (.cells #[.int .i64 m.t, .int .i64 m.s, .int .i64 m.f, .int .i64 m.g, .int .i64 m.c] 98 (0, 0))) (hl : xs.length ≤ 1000000) (hbase : base ≤ w.heap.size)
    (hK : ∀ v' w', OwnK w' base v' (xs ++ [m]) → w.grownBy w' v.ownBlock → Below base w w' → wpList Try.prog ops Q rest (a.put o.dst v') w') : wpList Try.prog ops Q (o :: rest) a w :=
  wpList_append_E (E := EArc) hgd s x 69 98 ho Try.underlying69 infoLnk rfl (by decide) (by decide) base v xs hs hown ⟨g, 0, none⟩ c m hx (news_of (E := EArc) hc rfl) hl hbase hK

theorem own_ne {α : Type} {E : El α} {t t' : TypeId} {w : World} {base B : Nat} {v : Value} {xs : List α} {cs : Array Value} (h : OwnE E t w base v xs) (hb : w.heap[B]? = some (.cells cs t' (0, 0))) (hne : t ≠ t') : v.ownBlock ≠ some B := by
  rcases h.2 with ⟨rfl, _⟩ | ⟨g, cap, cur, rfl, _, hg, _⟩
  · simp [Value.ownBlock]
  · intro he
    have e : g = B := by simpa [Value.ownBlock] using he
    subst e
    rw [hg] at hb
    simp only [Option.some.injEq, Obj.cells.injEq] at hb
    exact hne hb.2.1

def a1 (k : Nat) (x : Tst) : Arc := ⟨k, 1, (x.lv + 1).toNat, (x.rv + 1).toNat, x.ra - x.la⟩
def a2 (k : Nat) (x : Tst) : Arc := ⟨k, -1, (x.rv + 1).toNat, (x.lv + 1).toNat, -(x.ra - x.la)⟩
theorem arcsAt_eq (k : Nat) (x : Tst) : arcsAt k x = a1 k x :: (if x.k = 2 then [a2 k x] else []) := rfl
theorem getD_at {xs : List Tst} {k : Nat} (hk : k < xs.length) : xs.getD k default = xs[k] := by rw [List.getD_eq_getElem?_getD, List.getElem?_eq_getElem hk]; rfl
theorem findS_one {xs : List Tst} {k : Nat} (hk : k < xs.length) : findS xs ((k : Int), 1) = some (a1 k xs[k]) := by
  unfold findS a1
  dsimp only
  rw [if_neg (by omega), Int.toNat_natCast, getD_at hk, if_pos rfl]
theorem findS_two {xs : List Tst} {k : Nat} (hk : k < xs.length) (h : xs[k].k = 2) : findS xs ((k : Int), -1) = some (a2 k xs[k]) := by
  unfold findS a2
  dsimp only
  rw [if_neg (by omega), Int.toNat_natCast, getD_at hk, if_neg (by omega), if_pos ⟨rfl, h⟩]
theorem findS_no {xs : List Tst} {k : Nat} (hk : k < xs.length) (h : xs[k].k ≠ 2) : findS xs ((k : Int), -1) = none := by
  unfold findS
  dsimp only
  rw [if_neg (by omega), Int.toNat_natCast, getD_at hk, if_neg (by omega), if_neg (fun h2 => h h2.2)]

def InnerRel (w : World) (base : Nat) (v j : Value) (l0 l1 l2 : List Arc) : Prop :=
  (j = .int .i64 0 ∧ OwnK w base v l0) ∨ (j = .int .i64 1 ∧ OwnK w base v l1) ∨ (j = .int .i64 2 ∧ OwnK w base v l2)

set_option maxRecDepth 100000 in
set_option maxHeartbeats 2000000 in
theorem links_any (n : Int) (xs : List Tst) (A : Option Addr) (c : Nat) (w : World) (hl : xs.length ≤ 1000) (hg : ∀ x ∈ xs, Good n x) (hn : n ≤ 12) (hT : Tsts w w.heap.size A xs) :
    Calls Try.prog 41 #[.slice A xs.length c] w fun e w' => ∃ v, e = .returned v ∧ OwnK w' w.heap.size v (arcsL xs) ∧ Below w.heap.size w w' := by
  have HT := Lib.hid hT
  have HF := Lib.hid (fun u v hu => find_any n xs A c u v hg hn hu)
  have HS : Hid (∀ k, arcsF xs (k + 1) = arcsF xs k ++ arcsAt k (xs.getD k default)) := Lib.hid fun k => rfl
  have HN := Lib.hid (fun k => arcsF_len xs k)
  clear hT hg
  go_enter Try.func41, Try.ntmps41
  go_wp2_with fail
  go_loopw [3, 11] (fun v i wr => ∃ k : Nat, k ≤ xs.length ∧ i = .int .i64 k ∧ OwnK wr w.heap.size v (arcsF xs k) ∧ Below w.heap.size w wr) (fun _ i _ => xs.length - (intOf i).toNat)
  case atStart => exact ⟨0, Nat.zero_le _, rfl, OwnE.nil _ _ _, Below.refl _ _⟩
  case round =>
    obtain ⟨k, hk, rfl, hown, hb⟩ := hrel
    by_cases hlt : k < xs.length
    · obtain ⟨wo, hwo⟩ : ∃ wo, wo = wr := ⟨_, rfl⟩
      subst hwo
      have hk0 : (0 : Int) ≤ (k : Int) := by omega
      have hk1 : (k : Int) < (xs.length : Int) := by omega
      have hk2 : ((k : Int)).toNat = k := by omega
      have hlen := HN.out k
      have HO := Lib.hid hown
      have HB := Lib.hid hb
      have hsz := hb.size
      have HF1 : Hid (∀ (v : World), Tsts v v.heap.size A xs → Calls Try.prog 55 #[.slice A xs.length c, .agg #[.int .i64 k, .int .i64 1]] v fun e w' => e = .returned (.tuple #[aval (a1 k xs[k]), .bool true]) ∧ Below v.heap.size v w') := Lib.hid fun v hv => by
        have := HF.out (k, 1) v hv
        rw [findS_one hlt] at this
        exact this
      have HFO : Hid (arcsF xs k ++ arcsAt k xs[k] = arcsF xs (k + 1)) := Lib.hid (by rw [HS.out, getD_at hlt])
      have HF2 : Hid (xs[k].k = 2 → ∀ (v : World), Tsts v v.heap.size A xs → Calls Try.prog 55 #[.slice A xs.length c, .agg #[.int .i64 k, .int .i64 (-1)]] v fun e w' => e = .returned (.tuple #[aval (a2 k xs[k]), .bool true]) ∧ Below v.heap.size v w') := Lib.hid fun h v hv => by
        have := HF.out (k, -1) v hv
        rw [findS_two hlt h] at this
        exact this
      have HF3 : Hid (xs[k].k ≠ 2 → ∀ (v : World), Tsts v v.heap.size A xs → Calls Try.prog 55 #[.slice A xs.length c, .agg #[.int .i64 k, .int .i64 (-1)]] v fun e w' => e = .returned (.tuple #[.agg #[.int .i64 0, .int .i64 0, .int .i64 0, .int .i64 0, .int .i64 0], .bool false]) ∧ Below v.heap.size v w') := Lib.hid fun h v hv => by
        have := HF.out (k, -1) v hv
        rw [findS_no hlt h] at this
        exact this
      generalize xs[k] = x at HF1 HF2 HF3 HFO
      obtain ⟨L1, hL1⟩ : ∃ L, L = arcsF xs k ++ [a1 k x] := ⟨_, rfl⟩
      have hlen1 : L1.length ≤ 2 * k + 1 := by rw [hL1]; simp; omega
      have HL1 := Lib.hid hL1
      clear hL1
      clear hown hb
      go_wp2_with fail
      go_loopw [3, 16] (fun v j wr => InnerRel wr w.heap.size v j (arcsF xs k) L1 (arcsF xs (k + 1)) ∧ Below w.heap.size w wr ∧ wr.heap[wo.heap.size]? = some (.cells #[.int .i64 1, .int .i64 (-1)] 3 (0, 0)) ∧ wo.heap.size < wr.heap.size) (fun _ j _ => 2 - (intOf j).toNat)
      case atStart => exact ⟨.inl ⟨rfl, HO.out.alloc _⟩, HB.out.alloc hsz _, heap_alloc_new _ _, by simp⟩
      case round =>
        obtain ⟨hrel, hb, hobj, hsz1⟩ := hrel
        have HB1 := Lib.hid hb
        have HOB := Lib.hid hobj
        have hbz := hb.size
        have p0 : wr.cell? ⟨wo.heap.size, 0, none⟩ = some (.int .i64 1) := by rw [cell_of_row _ _ _ _ _ _ hobj]; rfl
        have p1 : wr.cell? ⟨wo.heap.size, 1, none⟩ = some (.int .i64 (-1)) := by rw [cell_of_row _ _ _ _ _ _ hobj]; rfl
        unfold InnerRel at hrel
        rcases hrel with ⟨rfl, hown⟩ | ⟨rfl, hown⟩ | ⟨rfl, hown⟩
        · clear p1
          obtain ⟨A1, c1, rfl⟩ := OwnE.slice hown
          have HO1 := Lib.hid hown
          clear hb hobj hown
          go_wp2_with fail
          refine (HF1.out _ (Reads.up HT.out HB1.out)).mono ?_
          rintro e w2 ⟨rfl, hb2⟩
          have HB2 := Lib.hid (HB1.out.trans (hb2.mono hbz))
          have HO2 := Lib.hid (HO1.out.below hb2 (Nat.le_refl _))
          have HOB2 := Lib.hid ((hb2.block wo.heap.size hsz1).trans HOB.out)
          have hz2 := hb2.size
          clear hb2 HO1 HB1 HOB
          go_wp2_with (at_builtin; refine wpList_append_lnk (w := World.alloc _ _) rfl _ _ rfl w.heap.size _ (arcsF xs k) rfl ?y1 (w2.heap.size + 1) 1 (a1 k x) rfl ?y2 ?y3 ?y4 ?_)
          case y1 => exact (HO2.out.alloc _).alloc _
          case y2 => exact heap_two' _ _ _
          case y3 => omega
          case y4 => simp; omega
          intro v3 w3 hown3 hg3 hb3
          have HOB3 := Lib.hid ((hg3.block wo.heap.size (by simp; omega) (Ne.symm (own_ne HO2.out HOB2.out (by decide)))).trans (((Below.heap_alloc _ _ _ (by simp; omega)).trans (Below.heap_alloc _ _ _ (by omega))).trans HOB2.out))
          have HB3 := Lib.hid (((HB2.out.alloc (by omega) _).alloc (by simp; omega) _).trans hb3)
          have hz3 := hg3.size
          simp only [World.size_alloc] at hz3
          have HO3 := Lib.hid hown3
          clear hown3 hg3 hb3
          go_wp2_with fail
          go_roundw
          case rel => exact ⟨.inr (.inl ⟨rfl, HO3.out.cast HL1.out.symm⟩), HB3.out, HOB3.out, by omega⟩
          case measure => simp [intOf]
        · clear p0
          obtain ⟨A1, c1, rfl⟩ := OwnE.slice hown
          have HO1 := Lib.hid hown
          clear hb hobj hown
          by_cases hq : x.k = 2
          · have HFO' : Hid (L1 ++ [a2 k x] = arcsF xs (k + 1)) := Lib.hid (by rw [HL1.out, ← HFO.out, arcsAt_eq, if_pos hq]; simp)
            have HF2' := Lib.hid (HF2.out hq)
            clear hq
            go_wp2_with fail
            refine (HF2'.out _ (Reads.up HT.out HB1.out)).mono ?_
            rintro e w2 ⟨rfl, hb2⟩
            have HB2 := Lib.hid (HB1.out.trans (hb2.mono hbz))
            have HO2 := Lib.hid (HO1.out.below hb2 (Nat.le_refl _))
            have HOB2 := Lib.hid ((hb2.block wo.heap.size hsz1).trans HOB.out)
            have hz2 := hb2.size
            clear hb2 HO1 HB1 HOB
            go_wp2_with (at_builtin; refine wpList_append_lnk (w := World.alloc _ _) rfl _ _ rfl w.heap.size _ (L1) rfl ?y1 (w2.heap.size + 1) 1 (a2 k x) rfl ?y2 ?y3 ?y4 ?_)
            case y1 => exact (HO2.out.alloc _).alloc _
            case y2 => exact heap_two' _ _ _
            case y3 => omega
            case y4 => simp; omega
            intro v3 w3 hown3 hg3 hb3
            have HOB3 := Lib.hid ((hg3.block wo.heap.size (by simp; omega) (Ne.symm (own_ne HO2.out HOB2.out (by decide)))).trans (((Below.heap_alloc _ _ _ (by simp; omega)).trans (Below.heap_alloc _ _ _ (by omega))).trans HOB2.out))
            have HB3 := Lib.hid (((HB2.out.alloc (by omega) _).alloc (by simp; omega) _).trans hb3)
            have hz3 := hg3.size
            simp only [World.size_alloc] at hz3
            have HO3 := Lib.hid hown3
            clear hown3 hg3 hb3
            go_wp2_with fail
            go_roundw
            case rel => exact ⟨.inr (.inr ⟨rfl, HO3.out.cast HFO'.out⟩), HB3.out, HOB3.out, by omega⟩
            case measure => simp [intOf]
          · have HFO' : Hid (L1 = arcsF xs (k + 1)) := Lib.hid (by rw [HL1.out, ← HFO.out, arcsAt_eq, if_neg hq])
            have HF3' := Lib.hid (HF3.out hq)
            clear hq
            go_wp2_with fail
            refine (HF3'.out _ (Reads.up HT.out HB1.out)).mono ?_
            rintro e w2 ⟨rfl, hb2⟩
            have HB2 := Lib.hid ((HB1.out.trans (hb2.mono hbz)).alloc (Nat.le_trans hbz hb2.size) (.cells #[.int .i64 0, .int .i64 0, .int .i64 0, .int .i64 0, .int .i64 0] 98 (0, 0)))
            have HO2 := Lib.hid (((HO1.out.below hb2 (Nat.le_refl _)).alloc (.cells #[.int .i64 0, .int .i64 0, .int .i64 0, .int .i64 0, .int .i64 0] 98 (0, 0))).cast HFO'.out)
            have HOB2 := Lib.hid ((Below.heap_alloc w2 (.cells #[.int .i64 0, .int .i64 0, .int .i64 0, .int .i64 0, .int .i64 0] 98 (0, 0)) _ (Nat.lt_of_lt_of_le hsz1 hb2.size)).trans ((hb2.block wo.heap.size hsz1).trans HOB.out))
            have hz2 := hb2.size
            clear hb2
            go_wp2_with fail
            go_roundw
            case rel => exact ⟨.inr (.inr ⟨rfl, HO2.out⟩), HB2.out, HOB2.out, by simp; omega⟩
            case measure => simp [intOf]
        · have HO2 := Lib.hid hown
          clear hown hb hobj p0 p1
          go_wp2_with fail
          go_roundw
          case rel => exact ⟨k + 1, by omega, by go_num, HO2.out, HB1.out⟩
          case measure => simp [intOf]; omega
    · have e : k = xs.length := by omega
      subst e
      go_wp2_with fail
      go_ret
      exact ⟨_, rfl, hown, hb⟩

end Go.Proofs.Ytcmibhechhcpiaa
