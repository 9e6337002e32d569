/-
  The contract of the reference's Tokens: it returns the tokens of a text.
-/
import Derived.Test.YtgaiknigdgoaeaaOne2
import Derived.Test.YtgaiknigdgoaeaaWrite
namespace Go.Proofs.Ytgaiknigdgoaeaa
open Go.RowKit

theorem comment_all (l : List UInt8) (n : Nat) (h : ∀ c ∈ l, c.toNat ≠ 10) : skipS true l n = ([], n) := by
  induction l with
  | nil => rfl
  | cons c r ih =>
    have hc := h c (by simp)
    have hr := ih (fun x hx => h x (by simp [hx]))
    by_cases h35 : c.toNat = 35
    · rw [skip_sharp h35, hr]
    · rw [skip_com hc h35, hr]

theorem skip_true_cons {c : UInt8} {r : List UInt8} {n : Nat} (h : c.toNat ≠ 10) : skipS true (c :: r) n = skipS true r n := by
  by_cases h35 : c.toNat = 35
  · exact skip_sharp h35
  · exact skip_com h h35

/-- the loop over a comment: from a on to the line feed, or the end -/
theorem true_false_feed {c : UInt8} {r : List UInt8} {n : Nat} (h : c.toNat = 10) : skipS true (c :: r) n = skipS false (c :: r) n := by
  rw [skip_feed h, skip_feed h]

theorem run_skip {f : Nat} {acc : List Tok} {l l' : List UInt8} {n n' : Nat} (h : skipS false l n = skipS false l' n') : run f acc l n = run f acc l' n' := by
  cases f with
  | zero => rfl
  | succ f => simp only [run, h]

theorem own_below {w w' : World} {base : Nat} {e : TypeId} {size : Nat} {v : Value} {n : Nat} {xs : List Value} (h : w.ownsRow base e size v n xs) (hb : Below w.heap.size w w') : w'.ownsRow base e size v n xs :=
  h.kept (row := none) ⟨hb.os, hb.tape, hb.output, hb.size, fun k hk _ => hb.block k hk⟩ (by cases v.ownBlock <;> simp)

/-- an error leaves no tokens -/
theorem run_err (f : Nat) : ∀ (acc : List Tok) (l : List UInt8) (ln : Nat) (ts : List Tok) (z e : Nat), run f acc l ln = (ts, z, e) → e ≠ 0 → ts = [] := by
  induction f with
  | zero =>
    intro acc l ln ts z e h he
    simp only [run, Prod.mk.injEq] at h
    exact absurd h.2.2.symm he
  | succ f ih =>
    intro acc l ln ts z e h he
    simp only [run] at h
    split at h
    · simp only [Prod.mk.injEq] at h
      exact absurd h.2.2.symm he
    · split at h
      · split at h
        · simp only [Prod.mk.injEq] at h
          exact h.1.symm
        · exact ih _ _ _ _ _ _ h he
      · simp only [Prod.mk.injEq] at h
        exact h.1.symm

set_option maxHeartbeats 8000000 in
theorem refTokens_any (s : ByteArray) (hs : s.size ≤ maxLen) (w : World) :
    Calls Try.prog 13 #[.string s] w fun e w' => TokRes w w' (toksS s.data.toList) e := by
  unfold maxLen at hs
  have hl : s.data.toList.length = s.size := by simp
  by_cases h2 : 20000 < s.size
  · have H := Lib.hid (show toksS s.data.toList = ([], 0, 3) by unfold toksS; rw [if_pos (by rw [hl]; exact h2)])
    clear hl
    go_enter Try.func13, Try.ntmps13
    go_wp2
    go_ret3
    rw [H.out]
    exact tok_err rfl rfl (Below.refl _ _)
  · have H := Lib.hid (show toksS s.data.toList = run (s.size + 1) [] s.data.toList 1 by unfold toksS; rw [if_neg (by rw [hl]; exact h2), hl])
    clear hl hs
    have h2' : s.size ≤ 20000 := by omega
    clear h2
    obtain ⟨i0, hi, hz0, hz1', hz2⟩ := info_parts infoTok
    generalize toksS s.data.toList = R at H ⊢
    go_enter Try.func13, Try.ntmps13
    go_wp2_with fail
    go_loopw [5, 6, 7] (fun v l i wr => ∃ (acc : List Tok) (k m f : Nat), k ≤ s.size ∧ m ≤ k + 1 ∧ acc.length ≤ k ∧ acc.length ≤ 4000 ∧ i = .int .i64 k ∧ l = .int .i64 m ∧
        wr.ownsRow w.heap.size 29 3 v acc.length (cellsOf acc) ∧ Below w.heap.size w wr ∧ s.size < f + k ∧ R = run f acc (s.data.toList.drop k) m) (fun _ _ i _ => s.size - (intOf i).toNat)
    case atStart => exact ⟨[], 0, 1, s.size + 1, by omega, by omega, Nat.zero_le _, Nat.zero_le _, rfl, rfl, World.ownsRow_nil _ _ _ _, Below.refl _ _, by omega, by
      rw [H.out, List.drop_zero]⟩
    case round =>
      obtain ⟨acc, k, m, f, hk, hm, hak, ha4, rfl, rfl, hown, hbel, hf, hR⟩ := hrel
      obtain ⟨ao, cap, rfl⟩ := slice_of hown
      have HR := Lib.hid hR
      have HO := Lib.hid hown
      clear hR hown H
      by_cases hlt : k < s.size
      · have hd := drop_cons s k hlt
        by_cases h35 : s[k].toNat = 35
        · have t1 : ((s[k].toNat : Int) == 35) = true := by simp; omega
          have HS := Lib.hid (show skipS false (s.data.toList.drop k) m = skipS true (s.data.toList.drop k) m by rw [hd, skip_sharp h35, skip_sharp h35])
          have H10 := Lib.hid (show s[k].toNat ≠ 10 by omega)
          clear hd h35
          go_wp2_with fail
          obtain ⟨wo, rfl⟩ : ∃ wo : World, wo = wr := ⟨_, rfl⟩
          go_loop [7] (fun i => ∃ j : Nat, k ≤ j ∧ j ≤ s.size ∧ i = .int .i64 j ∧ skipS true (s.data.toList.drop k) m = skipS true (s.data.toList.drop j) m) (fun i => s.size - (intOf i).toNat)
          case atStart => exact ⟨k, Nat.le_refl _, hk, rfl, rfl⟩
          case round =>
            obtain ⟨j, hkj, hj, rfl, hsk⟩ := hrel
            have HSK := Lib.hid hsk
            clear hsk
            by_cases hjl : j < s.size
            · have hdj := drop_cons s j hjl
              by_cases hj10 : s[j].toNat = 10
              · have hne : j ≠ k := by
                  rintro rfl
                  exact H10.out hj10
                have H1 := Lib.hid (show R = run f acc (s.data.toList.drop j) m by
                  rw [HR.out]
                  refine run_skip ?_
                  rw [HS.out, HSK.out, hdj, true_false_feed hj10])
                have t2 : ((s[j].toNat : Int) != 10) = false := by simp; omega
                clear hdj hj10
                have hkj2 : k < j := by omega
                go_wp2_with fail
                go_roundw
                case rel => exact ⟨acc, j, m, f, hj, by omega, by omega, ha4, rfl, rfl, HO.out, hbel, by omega, H1.out⟩
                case measure => simp [intOf]; omega
              · have t2 : ((s[j].toNat : Int) != 10) = true := by simp; omega
                have H1 := Lib.hid (show skipS true (s.data.toList.drop j) m = skipS true (s.data.toList.drop (j + 1)) m by rw [hdj, skip_true_cons hj10])
                clear hdj hj10
                go_wp2_with fail
                go_round
                case rel => exact ⟨j + 1, by omega, by omega, by go_num, by rw [HSK.out, H1.out]⟩
                case measure => simp [intOf]; omega
            · have H1 := Lib.hid (show R = run f acc (s.data.toList.drop j) m by
                rw [HR.out]
                refine run_skip ?_
                rw [HS.out, HSK.out, List.drop_eq_nil_of_le (by simp; omega), skip_nil, skip_nil])
              have hne : k < j := by omega
              go_wp2_with fail
              go_roundw
              case rel => exact ⟨acc, j, m, f, hj, by omega, by omega, ha4, rfl, rfl, HO.out, hbel, by omega, H1.out⟩
              case measure => simp [intOf]; omega
        · have t1 : ((s[k].toNat : Int) == 35) = false := by simp; omega
          cases hb : isBlk s[k] with
          | true =>
            have HB := Lib.hid hb
            by_cases h10 : s[k].toNat = 10
            · have H1 := Lib.hid (show R = run f acc (s.data.toList.drop (k + 1)) (m + 1) by rw [HR.out]; refine run_skip ?_; rw [hd]; exact skip_feed h10)
              have t2 : ((s[k].toNat : Int) == 10) = true := by simp; omega
              clear hd h35 hb h10
              go_wp2_with (refine (white_any _ _).mono ?_; rintro e w' ⟨rfl, rfl⟩; rw [HB.out])
              go_roundw
              case rel => exact ⟨acc, k + 1, m + 1, f, by omega, by omega, by omega, ha4, by go_num, by go_num, HO.out, hbel, by omega, H1.out⟩
              case measure => simp [intOf]; omega
            · have H1 := Lib.hid (show R = run f acc (s.data.toList.drop (k + 1)) m by rw [HR.out]; refine run_skip ?_; rw [hd]; exact skip_blank h10 h35 hb)
              have t2 : ((s[k].toNat : Int) == 10) = false := by simp; omega
              clear hd h35 hb h10
              go_wp2_with (refine (white_any _ _).mono ?_; rintro e w' ⟨rfl, rfl⟩; rw [HB.out])
              go_roundw
              case rel => exact ⟨acc, k + 1, m, f, by omega, by omega, by omega, ha4, by go_num, rfl, HO.out, hbel, by omega, H1.out⟩
              case measure => simp [intOf]; omega
          | false =>
            have HB := Lib.hid hb
            have hne10 : s[k].toNat ≠ 10 := by
              intro h
              simp [isBlk, h] at hb
            have hsk := skip_stop (r := s.data.toList.drop (k + 1)) (n := m) hne10 h35 hb
            rw [← hd] at hsk
            obtain ⟨f, rfl⟩ : ∃ g, f = g + 1 := ⟨f - 1, by omega⟩
            have hR2 : R = runH f acc (s.data.toList.drop k) m := by rw [HR.out, run_succ, hsk]
            obtain ⟨kd, n, er, hsc⟩ : ∃ kd n er, scanS (s.data.toList.drop k) = (kd, n, er) := ⟨_, _, _, rfl⟩
            have HC := Lib.hid (fun w => one_any s k hlt (by omega) w)
            simp only [oneOf, hsc] at HC
            have hzr := hbel.size
            by_cases he : er = 0
            · subst he
              by_cases h4 : acc.length = 4000
              · have H5 := Lib.hid (show R = ([], m, 3) by rw [hR2, hd]; rw [hd] at hsc; exact runH_full hsc h4)
                have t2 : ((acc.length : Int) == 4000) = true := by simp; omega
                generalize textS kd n (s.data.toList.drop k) = tx at HC
                clear hd h35 hb hne10 hsk hR2 hsc h4
                go_wp2_with fail
                refine (white_any _ _).mono ?_
                rintro e w' ⟨rfl, rfl⟩
                rw [HB.out]
                go_wp2_with fail
                refine (HC.out _).mono ?_
                rintro e w1 ⟨rfl, hb1⟩
                have HB1 := Lib.hid (hbel.trans (hb1.mono hzr))
                clear hb1
                go_wp2_with fail
                go_ret3
                rw [H5.out]
                exact tok_err rfl rfl (HB1.out.alloc HB1.out.size _)
              · have t2 : ((acc.length : Int) == 4000) = false := by simp; omega
                have hpos := scan_pos hsc
                rw [List.length_drop] at hpos
                have H5 := Lib.hid (show R = run f (acc ++ [⟨kd, textS kd n (s.data.toList.drop k), m⟩]) (s.data.toList.drop (k + n)) m by
                  rw [hR2, runH_more' hsc h4, List.drop_drop])
                have hkn : k + n ≤ s.size := by simp at hpos; omega
                have hn1 : 1 ≤ n := hpos.1
                have HL := Lib.hid (show (acc ++ [(⟨kd, textS kd n (s.data.toList.drop k), m⟩ : Tok)]).length = acc.length + 1 by simp)
                have HCS := Lib.hid (cellsOf_snoc acc ⟨kd, textS kd n (s.data.toList.drop k), m⟩)
                have h4' : acc.length ≤ 3999 := by omega
                generalize textS kd n (s.data.toList.drop k) = tx at H5 HC HL HCS
                clear hd h35 hb hne10 hsk hR2 hsc h4 hpos ha4
                go_wp2_with fail
                refine (white_any _ _).mono ?_
                rintro e w' ⟨rfl, rfl⟩
                rw [HB.out]
                go_wp2_with fail
                refine (HC.out _).mono ?_
                rintro e w1 ⟨rfl, hb1⟩
                have HB1 := Lib.hid (hbel.trans (hb1.mono hzr))
                have HO1 := Lib.hid (own_below HO.out hb1)
                have hz1 : w.heap.size ≤ w1.heap.size := HB1.out.size
                clear hb1
                go_wp2_with (at_builtin; refine wpList_append_own _ rfl _ _ 23 rfl w.heap.size 29 i0 (.agg #[.int .i64 0, .string ⟨#[]⟩, .int .i64 0]) 3 32 Try.underlying23 hi hz0 hz1' hz2 rfl (by decide) _ _ _ rfl ((HO1.out.alloc _).alloc _) ⟨w1.heap.size + 1, 0, none⟩ 1 1 (tcells ⟨kd, tx, m⟩) rfl rfl ?c1 ?c2 ?c3 ?c4 ?c5 ?_)
                case c1 =>
                  intro j u hj
                  match j, hj with
                  | 0, hj => simp [tcells] at hj; subst hj; simp [Addr.add]
                  | 1, hj => simp [tcells] at hj; subst hj; simp [Addr.add]
                  | 2, hj => simp [tcells] at hj; subst hj; simp [Addr.add]
                case c2 => intro u hu; simp [tcells] at hu; rcases hu with rfl | rfl | rfl <;> rfl
                case c3 => unfold maxLen; omega
                case c4 => omega
                case c5 => simp; omega
                intro v' w2 hown' hgrow _
                have HO2 := Lib.hid hown'
                have hb2 : Below w.heap.size w w2 := (((HB1.out.alloc hz1 _).alloc (by simp; omega) _).grown hgrow (by simp; omega) (fun k hk => (HO1.out.lt k hk).1))
                clear hown' hgrow
                go_wp2_with fail
                go_roundw
                case rel =>
                  refine ⟨acc ++ [⟨kd, tx, m⟩], k + n, m, f, hkn, by omega, by rw [HL.out]; omega, by rw [HL.out]; omega, by go_num, rfl, ?_, hb2, by omega, H5.out⟩
                  rw [HL.out, HCS.out]; exact HO2.out
                case measure => simp [intOf]; omega
            · have H5 := Lib.hid (show R = ([], m, er) by rw [hR2, hd]; rw [hd] at hsc; exact runH_err hsc he)
              have t1' : ((er : Int) == 0) = false := by simp; omega
              have t2 : ((er : Int) != 0) = true := by simp; omega
              generalize textS kd n (s.data.toList.drop k) = tx at HC
              clear hd h35 hb hne10 hsk hR2 hsc he
              go_wp2_with fail
              refine (white_any _ _).mono ?_
              rintro e w' ⟨rfl, rfl⟩
              rw [HB.out]
              go_wp2_with fail
              refine (HC.out _).mono ?_
              rintro e w1 ⟨rfl, hb1⟩
              have HB1 := Lib.hid (hbel.trans (hb1.mono hzr))
              clear hb1
              go_wp2_with fail
              go_ret3
              rw [H5.out]
              exact tok_err rfl rfl (HB1.out.alloc HB1.out.size _)
      · have H5 := Lib.hid (show R = (acc, 0, 0) by
          rw [HR.out, List.drop_eq_nil_of_le (by simp; omega)]
          cases f with
          | zero => rfl
          | succ f => rw [run_succ]; rfl)
        go_wp2
        go_ret3
        rw [H5.out]
        exact ⟨_, rfl, HO.out, hbel⟩

end Go.Proofs.Ytgaiknigdgoaeaa
