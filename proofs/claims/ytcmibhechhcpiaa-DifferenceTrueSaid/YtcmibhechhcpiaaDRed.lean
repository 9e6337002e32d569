/-
  Difference: Reduce of the reference.
-/
import Derived.Test.YtcmibhechhcpiaaDImp
namespace Go.Proofs.Ytcmibhechhcpiaa
open Go.RowKit

/-- going through tests in order, with those that remained: what remains in the end -/
def RedTo : List Tst → List Tst → List Tst → Prop
  | [], out, res => res = out
  | x :: r, out, res => (Impl (arcsL out) (arcsL [x]) ∧ RedTo r out res) ∨ (¬ Impl (arcsL out) (arcsL [x]) ∧ RedTo r (out ++ [x]) res)
theorem redTo_unique : ∀ {r out a b : List Tst}, RedTo r out a → RedTo r out b → a = b := by
  intro r
  induction r with
  | nil => intro out a b h1 h2; exact Eq.trans h1 (Eq.symm h2)
  | cons x r ih =>
    intro out a b h1 h2
    rcases h1 with ⟨p1, h1⟩ | ⟨p1, h1⟩ <;> rcases h2 with ⟨p2, h2⟩ | ⟨p2, h2⟩
    · exact ih h1 h2
    · exact absurd p1 p2
    · exact absurd p2 p1
    · exact ih h1 h2

theorem infoTst : (Try.prog.info? 32).map (fun i => (i.zero, i.size, i.bytes)) = some (some (.agg #[.int .i64 0, .int .i64 0, .int .i64 0, .int .i64 0, .int .i64 0]), 5, 40) := by kernel_rfl
abbrev OwnT (w : World) (base : Nat) (v : Value) (xs : List Tst) : Prop := OwnE ETst 32 w base v xs
theorem wpList_append_tst {w : World} {ops : Array Oper} {rest : List Oper} {o : Oper} {a : Act} {Q : Exit → Act → World → Prop} (hgd : o.guard = none) (s x : Operand)
    (ho : o.op = .call { callee := .builtin .append, args := #[s, x], argTypes := #[22, 22] })
    (base : Nat) (v : Value) (xs : List Tst) (hs : a.eval s = v) (hown : OwnT w base v xs) (g c : Nat) (m : Tst) (hx : a.eval x = .slice (some ⟨g, 0, none⟩) 1 c)
    (hc : w.heap[g]? = some (.cells #[.int .i64 m.k, .int .i64 m.lv, .int .i64 m.la, .int .i64 m.rv, .int .i64 m.ra] 32 (0, 0))) (hl : xs.length ≤ 1000000) (hbase : base ≤ w.heap.size)
    (hK : ∀ v' w', OwnT w' base v' (xs ++ [m]) → w.grownBy w' v.ownBlock → Below base w w' → wpList Try.prog ops Q rest (a.put o.dst v') w') : wpList Try.prog ops Q (o :: rest) a w :=
  wpList_append_E (E := ETst) hgd s x 22 32 ho Try.underlying22 infoTst rfl (by decide) (by decide) base v xs hs hown ⟨g, 0, none⟩ c m hx (news_of (E := ETst) hc rfl) hl hbase hK

set_option maxRecDepth 100000 in
set_option maxHeartbeats 4000000 in
theorem reduce_any (n : Int) (xs : List Tst) (A : Option Addr) (c : Nat) (w : World) (hl : xs.length ≤ maxLen) (hT : Tsts w w.heap.size A xs) :
    Calls Try.prog 35 #[.int .i64 n, .slice A xs.length c] w fun e w' => Below w.heap.size w w' ∧
      ((validS n xs ≠ 0 ∧ e = .returned (.tuple #[.slice none 0 0, .int .i64 (validS n xs)])) ∨
       (validS n xs = 0 ∧ ∃ v res, e = .returned (.tuple #[v, .int .i64 0]) ∧ OwnT w' w.heap.size v res ∧ RedTo xs [] res)) := by
  have HV := Lib.hid (valid_any n xs A c w hl hT)
  have HT := Lib.hid hT
  by_cases hv : validS n xs = 0
  · obtain ⟨⟨hn0, hn12⟩, hl40, hg⟩ := validS_zero.1 hv
    rw [hv] at HV
    have HG := Lib.hid hg
    have HVO : Hid (∀ out : List Tst, out.length ≤ 40 → (∀ x ∈ out, Good n x) → validS n out = 0) := Lib.hid fun out h1 h2 => validS_zero.2 ⟨⟨hn0, hn12⟩, h1, h2⟩
    have hv0 := hv
    clear hT hg hv hn0 hn12
    go_enter Try.func35, Try.ntmps35
    go_wp2_with fail
    refine HV.out.mono ?_
    rintro e w1 ⟨rfl, hb1⟩
    have HB1 := Lib.hid hb1
    clear hb1
    go_wp2_with fail
    go_loopw [7, 8] (fun v ii wr => ∃ (k : Nat) (out : List Tst), k ≤ xs.length ∧ ii = .int .i64 k ∧ OwnT wr w.heap.size v out ∧ out.length ≤ k ∧ (∀ x ∈ out, Good n x) ∧ (∀ res, RedTo (xs.drop k) out res → RedTo xs [] res) ∧ Below w.heap.size w wr) (fun _ ii _ => xs.length - (intOf ii).toNat)
    case atStart => exact ⟨0, [], Nat.zero_le _, rfl, OwnE.nil _ _ _, Nat.le_refl _, (fun x hx => by simp at hx), (fun res h => h), HB1.out⟩
    case round =>
      obtain ⟨k, out, hk, rfl, hown, hlen, hgo, hred, hb⟩ := hrel
      by_cases hlt : k < xs.length
      · obtain ⟨b, off, rfl, hbb, k0, k1, k2, k3, k4⟩ := Tsts.cells (Reads.below HT.out hb) hlt
        have hdrop : xs.drop k = xs[k] :: xs.drop (k + 1) := List.drop_eq_getElem_cons hlt
        have HR : Hid (∀ res, RedTo (xs[k] :: xs.drop (k + 1)) out res → RedTo xs [] res) := Lib.hid (by rw [← hdrop]; exact hred)
        have HGX := Lib.hid (HG.out _ (List.getElem_mem hlt))
        obtain ⟨A1, c1, rfl⟩ := OwnE.slice hown
        have HI := Lib.hid (implies_any n out A1 c1 xs[k] wr (by unfold maxLen; omega) hown.read)
        have hvo := HVO.out out (by omega) hgo
        have hox := one_zero.2 HGX.out
        have hk0 : (0 : Int) ≤ (k : Int) := by omega
        have hk1 : (k : Int) < (xs.length : Int) := by omega
        have hk2 : ((k : Int)).toNat = k := by omega
        generalize xs[k] = x at k0 k1 k2 k3 k4 HR HGX HI hox
        obtain ⟨q, lv, la, rv, ra⟩ := x
        dsimp only at k0 k1 k2 k3 k4
        have HVO1 := Lib.hid hvo
        have HOX := Lib.hid hox
        have HO := Lib.hid hown
        have HB := Lib.hid hb
        have HGO := Lib.hid hgo
        have hsz := hb.size
        clear hred hdrop hvo hox hown hb hgo
        go_wp2_with fail
        refine HI.out.mono ?_
        rintro e w2 ⟨hb2, h2⟩
        rcases h2 with ⟨h2, _⟩ | ⟨_, h2, _⟩ | ⟨_, _, z, rfl, hz⟩
        · exact absurd HVO1.out h2
        · exact absurd HOX.out h2
        have HZ := Lib.hid hz
        have HO2 := Lib.hid (HO.out.below hb2 (Nat.le_refl _))
        have HB2 := Lib.hid (HB.out.trans (hb2.mono hsz))
        have hsz2 := HB2.out.size
        have k0' := (hb2.cell (p := ⟨b, off + k * 5, none⟩) (Nat.lt_of_lt_of_le hbb hsz)).trans k0
        have k1' := (hb2.cell (p := ⟨b, off + k * 5 + 1, none⟩) (Nat.lt_of_lt_of_le hbb hsz)).trans k1
        have k2' := (hb2.cell (p := ⟨b, off + k * 5 + 2, none⟩) (Nat.lt_of_lt_of_le hbb hsz)).trans k2
        have k3' := (hb2.cell (p := ⟨b, off + k * 5 + 3, none⟩) (Nat.lt_of_lt_of_le hbb hsz)).trans k3
        have k4' := (hb2.cell (p := ⟨b, off + k * 5 + 4, none⟩) (Nat.lt_of_lt_of_le hbb hsz)).trans k4
        clear hz hb2 HI k0 k1 k2 k3 k4 HO HB
        cases z
        case true =>
          have HX : Hid (∀ res, RedTo (xs.drop (k + 1)) out res → RedTo xs [] res) := Lib.hid fun res h => HR.out res (.inl ⟨HZ.out.1 rfl, h⟩)
          go_wp2_with fail
          go_roundw
          case rel => exact ⟨k + 1, out, by omega, by go_num, HO2.out, by omega, HGO.out, HX.out, HB2.out⟩
          case measure => simp [intOf]; omega
        case false =>
          have HX : Hid (∀ res, RedTo (xs.drop (k + 1)) (out ++ [⟨q, lv, la, rv, ra⟩]) res → RedTo xs [] res) := Lib.hid fun res h => HR.out res (.inr ⟨fun h2 => (by have := HZ.out.2 h2; cases this), h⟩)
          go_wp2_with (at_builtin; refine wpList_append_tst (w := World.alloc _ _) rfl _ _ rfl w.heap.size _ out rfl ?y1 w2.heap.size 1 ⟨q, lv, la, rv, ra⟩ rfl ?y2 ?y3 ?y4 ?_)
          case y1 => exact HO2.out.alloc _
          case y2 => simp [World.alloc, -World.alloc_eq]
          case y3 => omega
          case y4 => simp; omega
          intro v3 w3 hown3 _ hb3
          have HO3 := Lib.hid hown3
          have HB3 := Lib.hid ((HB2.out.alloc hsz2 _).trans hb3)
          have HG3 : Hid (∀ x ∈ out ++ [(⟨q, lv, la, rv, ra⟩ : Tst)], Good n x) := Lib.hid fun x hx => by
            rw [List.mem_append] at hx
            rcases hx with hx | hx
            · exact HGO.out x hx
            · simp at hx; rw [hx]; exact HGX.out
          clear hown3 hb3
          go_wp2_with fail
          go_roundw
          case rel => exact ⟨k + 1, _, by omega, by go_num, HO3.out, by simp; omega, HG3.out, HX.out, HB3.out⟩
          case measure => simp [intOf]; omega
      · have e : k = xs.length := by omega
        rw [e, List.drop_length] at hred
        have HX := Lib.hid (hred out rfl)
        have HO := Lib.hid hown
        have HB := Lib.hid hb
        clear hred hown hb hgo e
        go_wp2_with fail
        go_ret2
        exact ⟨HB.out, .inr ⟨hv0, _, out, rfl, HO.out, HX.out⟩⟩
  · generalize validS n xs = e1 at HV hv ⊢
    have t1 : ((e1 : Int) != 0) = true := by simp; omega
    clear hT
    go_enter Try.func35, Try.ntmps35
    go_wp2_with fail
    refine HV.out.mono ?_
    rintro e w1 ⟨rfl, hb1⟩
    have HB1 := Lib.hid hb1
    clear hb1
    go_wp2_with fail
    go_ret2
    exact ⟨HB1.out, .inl ⟨hv, rfl⟩⟩

end Go.Proofs.Ytcmibhechhcpiaa
