/-
  The contract of the program's Tokens: it returns the tokens of a text.
-/
import Derived.Test.YtgaiknigdgoaeaaText
import Derived.Deep.LoopGhost
namespace Go.Proofs.Ytgaiknigdgoaeaa
open Go.RowKit

/-- a token's cells -/
def tcells (t : Tok) : List Value := [.int .i64 t.kind, .string ⟨t.text.toArray⟩, .int .i64 t.line]
def cellsOf (ts : List Tok) : List Value := ts.flatMap tcells
theorem cellsOf_length (ts : List Tok) : (cellsOf ts).length = ts.length * 3 := by
  induction ts with
  | nil => rfl
  | cons t r ih =>
    have : cellsOf (t :: r) = tcells t ++ cellsOf r := rfl
    rw [this, List.length_append, ih, List.length_cons]
    simp [tcells]; omega
theorem cellsOf_snoc (ts : List Tok) (t : Tok) : cellsOf (ts ++ [t]) = cellsOf ts ++ tcells t := by simp [cellsOf]

/-- run, behind the skip -/
def runH (f : Nat) (acc : List Tok) (r : List UInt8) (ln : Nat) : List Tok × Nat × Nat :=
  match r with
  | [] => (acc, 0, 0)
  | c :: r =>
    match scanS (c :: r) with
    | (k, n, e) =>
      if e = 0 then
        if acc.length = 4000 then ([], ln, 3)
        else run f (acc ++ [⟨k, textS k n (c :: r), ln⟩]) ((c :: r).drop n) ln
      else ([], ln, e)

theorem run_succ (f : Nat) (acc : List Tok) (l : List UInt8) (ln : Nat) : run (f + 1) acc l ln = runH f acc (skipS false l ln).1 (skipS false l ln).2 := by
  simp only [run, runH]
  rcases skipS false l ln with ⟨r, n⟩
  cases r <;> rfl
theorem runH_nil (f : Nat) (acc : List Tok) (ln : Nat) : runH f acc [] ln = (acc, 0, 0) := rfl
theorem runH_err {f : Nat} {acc : List Tok} {c : UInt8} {r : List UInt8} {ln k n e : Nat} (h : scanS (c :: r) = (k, n, e)) (he : e ≠ 0) : runH f acc (c :: r) ln = ([], ln, e) := by
  simp [runH, h, he]
theorem runH_full {f : Nat} {acc : List Tok} {c : UInt8} {r : List UInt8} {ln k n : Nat} (h : scanS (c :: r) = (k, n, 0)) (ha : acc.length = 4000) : runH f acc (c :: r) ln = ([], ln, 3) := by
  simp [runH, h, ha]
theorem runH_more {f : Nat} {acc : List Tok} {c : UInt8} {r : List UInt8} {ln k n : Nat} (h : scanS (c :: r) = (k, n, 0)) (ha : acc.length ≠ 4000) :
    runH f acc (c :: r) ln = run f (acc ++ [⟨k, textS k n (c :: r), ln⟩]) ((c :: r).drop n) ln := by
  simp [runH, h, ha]

theorem runH_more' {f : Nat} {acc : List Tok} {l : List UInt8} {ln k n : Nat} (h : scanS l = (k, n, 0)) (ha : acc.length ≠ 4000) :
    runH f acc l ln = run f (acc ++ [⟨k, textS k n l, ln⟩]) (l.drop n) ln := by
  cases l with
  | nil => simp [scanS] at h
  | cons c r => exact runH_more h ha

theorem infoTok : (Try.prog.info? 29).map (fun i => (i.zero, i.size, i.bytes)) = some (some (.agg #[.int .i64 0, .string ⟨#[]⟩, .int .i64 0]), 3, 32) := by kernel_rfl

/-- what Tokens leaves -/
def TokRes (w w' : World) (R : List Tok × Nat × Nat) (e : Ending) : Prop :=
  ∃ v, e = .returned (.tuple #[v, .int .i64 R.2.1, .int .i64 R.2.2]) ∧ w'.ownsRow w.heap.size 29 3 v R.1.length (cellsOf R.1) ∧ Below w.heap.size w w'

theorem tok_err {w w' : World} {ln e : Nat} {a b : Int} (ha : a = ln) (hb : b = e) (h : Below w.heap.size w w') : TokRes w w' ([], ln, e) (.returned (.tuple #[.slice none 0 0, .int .i64 a, .int .i64 b])) := by
  subst ha hb
  exact ⟨_, rfl, World.ownsRow_nil w' _ _ _, h⟩

theorem slice_of {w : World} {base : Nat} {e : TypeId} {size : Nat} {v : Value} {n : Nat} {xs : List Value} (h : w.ownsRow base e size v n xs) : ∃ ao cap, v = .slice ao n cap := by
  rcases h.2 with ⟨hv, h0⟩ | ⟨g, cap, cur, hv, _⟩
  · exact ⟨none, 0, by rw [hv, h0]⟩
  · exact ⟨_, _, hv⟩

theorem scan_str3 {l : List UInt8} {k n : Nat} (h : scanS l = (k, n, 0)) (hk : k = 3) : 2 ≤ n := by
  subst hk
  cases l with
  | nil => simp [scanS] at h
  | cons c r =>
    simp only [scanS] at h
    split at h
    · unfold runS at h; split at h <;> simp at h
    · split at h
      · unfold runS at h; split at h <;> simp at h
      · split at h
        · obtain ⟨_, _, _, _, h2, _⟩ := strS_kind h; exact h2
        · unfold signS at h
          split at h
          · simp at h
          · split at h <;> simp at h

theorem unquote_scan (s : ByteArray) (k n kd : Nat) (hkn : k + n ≤ s.size) (hsz : s.size ≤ 20000) (h : scanS (s.data.toList.drop k) = (kd, n, 0)) (w : World) :
    Calls Try.prog 31 #[.int .i64 kd, .string (s.extract k (k + n))] w fun e w' => e = .returned (.string ⟨(textS kd n (s.data.toList.drop k)).toArray⟩) ∧ w = w' := by
  have hz : (s.extract k (k + n)).size = n := by simp; omega
  by_cases hk : kd = 3
  · have h2 := scan_str3 h hk
    subst hk
    refine (unquote_str (s.extract k (k + n)) (by omega) (by rw [hz]; unfold maxLen; omega) w).mono ?_
    rintro e w' ⟨rfl, rfl⟩
    refine ⟨ret_str ?_, rfl⟩
    rw [hz]
    simp only [textS, if_true]
    rw [Lib.extract_data, Lib.extract_data, List.drop_take, List.drop_drop, List.drop_take, List.drop_drop, List.take_take]
    congr 1
    omega
  · refine (unquote_else kd (by simp; omega) _ w).mono ?_
    rintro e w' ⟨rfl, rfl⟩
    refine ⟨ret_str ?_, rfl⟩
    unfold textS
    rw [if_neg hk, Lib.extract_data]
    simp

theorem skip_at_sum (s : ByteArray) (k n m : Nat) (ha : k + n ≤ s.size) (_hs : s.size ≤ 20000) (hn : m ≤ 1000000) (w : World) :
    Calls Try.prog 29 #[.string s, .int .i64 (k + n), .int .i64 m] w fun e w' => SkipTo s (k + n) m e ∧ w = w' := by
  have := skip_any s (k + n) m ha (by omega) hn w
  simpa using this

set_option maxHeartbeats 4000000 in
theorem tokens_any (s : ByteArray) (hs : s.size ≤ maxLen) (w : World) :
    Calls Try.prog 12 #[.string s] w fun e w' => TokRes w w' (toksS s.data.toList) e := by
  unfold maxLen at hs
  have hl : s.data.toList.length = s.size := by simp
  by_cases h2 : 20000 < s.size
  · have H := Lib.hid (show toksS s.data.toList = ([], 0, 3) by unfold toksS; rw [if_pos (by rw [hl]; exact h2)])
    clear hl
    go_enter Try.func12, Try.ntmps12
    go_wp2
    go_ret3
    rw [H.out]
    exact tok_err rfl rfl (Below.refl _ _)
  · have H := Lib.hid (show toksS s.data.toList = run (s.size + 1) [] s.data.toList 1 by unfold toksS; rw [if_neg (by rw [hl]; exact h2), hl])
    clear hl hs
    have h2' : s.size ≤ 20000 := by omega
    clear h2
    obtain ⟨i0, hi, hz0, hz1, hz2⟩ := info_parts infoTok
    generalize toksS s.data.toList = R at H ⊢
    go_enter Try.func12, Try.ntmps12
    go_wp2_with fail
    refine (skip_any s 0 1 (Nat.zero_le _) (by omega) (by omega) _).mono ?_
    rintro e w' ⟨⟨a, n, rfl, ha1, ha2, ha3, ha4⟩, rfl⟩
    have H4 := Lib.hid ha4
    clear ha4 ha1
    go_wp2_with fail
    go_loopw [5, 6, 7] (fun v i l wr => ∃ (acc : List Tok) (k m f : Nat), k ≤ s.size ∧ m ≤ k + 1 ∧ acc.length ≤ k ∧ acc.length ≤ 4000 ∧ i = .int .i64 k ∧ l = .int .i64 m ∧
        wr.ownsRow w.heap.size 29 3 v acc.length (cellsOf acc) ∧ Below w.heap.size w wr ∧ s.size ≤ f + k ∧ R = runH f acc (s.data.toList.drop k) m) (fun _ i _ _ => s.size - (intOf i).toNat)
    case atStart => exact ⟨[], a, n, s.size, ha2, by omega, Nat.zero_le _, Nat.zero_le _, rfl, rfl, World.ownsRow_nil _ _ _ _, Below.refl _ _, by omega, by
      rw [H.out, run_succ]
      have := H4.out
      simp only [List.drop_zero] at this
      rw [this]⟩
    case round =>
      obtain ⟨acc, k, m, f, hk, hm, hak, ha4, rfl, rfl, hown, hbel, hf, hR⟩ := hrel
      obtain ⟨ao, cap, rfl⟩ := slice_of hown
      have HR := Lib.hid hR
      have HO := Lib.hid hown
      clear hR hown H H4
      by_cases hlt : k < s.size
      · have hd := drop_cons s k hlt
        have HS : ∀ w, Calls Try.prog 30 #[.string (s.extract k s.size)] w fun e w' => e = trip (scanS (s.data.toList.drop k)) ∧ w = w' := by
          intro w
          have := scan_any (s.extract k s.size) (by unfold maxLen; simp; omega) w
          rw [Lib.extract_to_end] at this
          exact this
        obtain ⟨kd, n, er, hsc⟩ : ∃ kd n er, scanS (s.data.toList.drop k) = (kd, n, er) := ⟨_, _, _, rfl⟩
        rw [hsc] at HS
        have HSC := Lib.hid HS
        simp only [trip] at HSC
        clear HS
        by_cases he : er = 0
        · subst he
          by_cases h4 : acc.length = 4000
          · have H5 := Lib.hid (show R = ([], m, 3) by rw [HR.out, hd]; rw [hd] at hsc; exact runH_full hsc h4)
            have t2 : ((acc.length : Int) == 4000) = true := by simp; omega
            clear hsc hd h4
            go_wp2_with (refine (HSC.out _).mono ?_; rintro e w' ⟨rfl, rfl⟩)
            go_ret3
            rw [H5.out]
            exact tok_err rfl rfl hbel
          · have t2 : ((acc.length : Int) == 4000) = false := by simp; omega
            have hpos := scan_pos hsc
            rw [List.length_drop] at hpos
            have H5 := Lib.hid (show R = run f (acc ++ [⟨kd, textS kd n (s.data.toList.drop k), m⟩]) (s.data.toList.drop (k + n)) m by
              rw [HR.out, runH_more' hsc h4, List.drop_drop])
            have hkn : k + n ≤ s.size := by simp at hpos; omega
            have hn1 : 1 ≤ n := hpos.1
            have HU := Lib.hid (unquote_scan s k n kd hkn h2' hsc)
            have hlen : (acc ++ [(⟨kd, textS kd n (s.data.toList.drop k), m⟩ : Tok)]).length = acc.length + 1 := by simp
            have hcs := cellsOf_snoc acc ⟨kd, textS kd n (s.data.toList.drop k), m⟩
            have HL := Lib.hid hlen
            have HCS := Lib.hid hcs
            have h4' : acc.length ≤ 3999 := by omega
            generalize textS kd n (s.data.toList.drop k) = tx at H5 HU HL HCS
            clear hd hpos hsc hlen hcs h4 ha4
            go_wp2_with (refine (HSC.out _).mono ?_; rintro e w' ⟨rfl, rfl⟩)
            refine (HU.out _).mono ?_
            rintro e w' ⟨rfl, rfl⟩
            go_wp2_with (at_builtin; refine wpList_append_own _ rfl _ _ 23 rfl w.heap.size 29 i0 (.agg #[.int .i64 0, .string ⟨#[]⟩, .int .i64 0]) 3 32 Try.underlying23 hi hz0 hz1 hz2 rfl (by decide) _ _ _ rfl (HO.out.alloc _) ⟨wr.heap.size, 0, none⟩ 1 1 (tcells ⟨kd, tx, m⟩) rfl rfl ?c1 ?c2 ?c3 ?c4 ?c5 ?_)
            case c1 =>
              intro j u hj
              match j, hj with
              | 0, hj => simp [tcells] at hj; subst hj; simp [Addr.add]
              | 1, hj => simp [tcells] at hj; subst hj; simp [Addr.add]
              | 2, hj => simp [tcells] at hj; subst hj; simp [Addr.add]
            case c2 => intro u hu; simp [tcells] at hu; rcases hu with rfl | rfl | rfl <;> rfl
            case c3 => unfold maxLen; omega
            case c4 => omega
            case c5 => have := hbel.size; simp; omega
            intro v' w2 hown' hgrow _
            have HO2 := Lib.hid hown'
            have hb2 : Below w.heap.size w w2 := ((hbel.alloc (by have := hbel.size; omega) _).grown hgrow (by have := hbel.size; simp; omega) (fun k hk => (HO.out.lt k hk).1))
            clear hown' hgrow
            have HK := Lib.hid (skip_at_sum s k n m hkn h2' (by omega))
            go_wp2_with fail
            refine (HK.out _).mono ?_
            rintro e w' ⟨⟨a', n', rfl, hb1, hb2', hb3, hb4⟩, rfl⟩
            have HB4 := Lib.hid hb4
            clear hb4
            go_wp2_with fail
            go_roundw
            case rel =>
              obtain ⟨f, rfl⟩ : ∃ g, f = g + 1 := ⟨f - 1, by omega⟩
              refine ⟨acc ++ [⟨kd, tx, m⟩], a', n', f, hb2', by omega, by rw [HL.out]; omega, by rw [HL.out]; omega, rfl, rfl, ?_, hb2, by omega, ?_⟩
              · rw [HL.out, HCS.out]; exact HO2.out
              · rw [H5.out, run_succ, HB4.out]
            case measure => simp [intOf]; omega
        · have H5 := Lib.hid (show R = ([], m, er) by rw [HR.out, hd]; rw [hd] at hsc; exact runH_err hsc he)
          have t1 : ((er : Int) == 0) = false := by simp; omega
          have t2 : ((er : Int) != 0) = true := by simp; omega
          clear hsc hd he
          go_wp2_with (refine (HSC.out _).mono ?_; rintro e w' ⟨rfl, rfl⟩)
          go_ret3
          rw [H5.out]
          exact tok_err rfl rfl hbel
      · have H5 := Lib.hid (show R = (acc, 0, 0) by rw [HR.out, List.drop_eq_nil_of_le (by simp; omega)]; rfl)
        go_wp2
        go_ret3
        rw [H5.out]
        exact ⟨_, rfl, HO.out, hbel⟩

end Go.Proofs.Ytgaiknigdgoaeaa
