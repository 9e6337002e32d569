import Derived.Test.YtgpcaofikmdpjaaPlain
namespace Go.Proofs.Ytgpcaofikmdpjaa
theorem pre_le (p : UInt8 → Bool) (l : List UInt8) : pre p l ≤ l.length := by
  induction l with
  | nil => simp [pre]
  | cons c r ih => simp only [pre]; split <;> simp <;> omega
theorem pre_all {p : UInt8 → Bool} {l rest : List UInt8} (h : ∀ c ∈ l, p c = true) (hr : ∀ c, rest.head? = some c → p c = false) : pre p (l ++ rest) = l.length := by
  induction l with
  | nil =>
    cases rest with
    | nil => simp [pre]
    | cons c r => simp [pre, hr c rfl]
  | cons c r ih =>
    have := h c (by simp)
    simp only [List.cons_append, pre, this, if_true, List.length_cons]
    rw [ih (fun x hx => h x (by simp [hx]))]
theorem pre_full {p : UInt8 → Bool} {l : List UInt8} (h : pre p l = l.length) : ∀ c ∈ l, p c = true := by
  induction l with
  | nil => simp
  | cons c r ih =>
    simp only [pre] at h
    split at h
    · rename_i hc
      intro x hx
      rcases List.mem_cons.1 hx with rfl | hx
      · exact hc
      · exact ih (by simp at h; omega) x hx
    · simp at h
theorem pre_take (p : UInt8 → Bool) (l : List UInt8) : ∀ c ∈ l.take (pre p l), p c = true := by
  induction l with
  | nil => simp [pre]
  | cons c r ih =>
    simp only [pre]
    split
    · rename_i hc
      intro x hx
      rw [List.take_succ_cons] at hx
      rcases List.mem_cons.1 hx with rfl | hx
      · exact hc
      · exact ih x hx
    · simp
theorem pre_self {p : UInt8 → Bool} {l : List UInt8} (h : ∀ c ∈ l, p c = true) : pre p l = l.length := by
  have := pre_all (rest := []) h (by simp)
  simpa using this
theorem pre_take_eq (p : UInt8 → Bool) (l : List UInt8) : pre p (l.take (pre p l)) = pre p l := by
  rw [pre_self (pre_take p l), List.length_take, Nat.min_eq_left (pre_le p l)]

def sep (c : UInt8) : Bool := isBlk c || c.toNat == 35

theorem sep_cases {c : UInt8} (h : sep c = true) : c.toNat = 32 ∨ c.toNat = 9 ∨ c.toNat = 13 ∨ c.toNat = 10 ∨ c.toNat = 35 := by
  simp [sep, isBlk] at h; omega
theorem sep_nam {c : UInt8} (h : sep c = true) : isNam c = false := by
  have := sep_cases h
  simp [isNam, isLet, isDig]; omega
theorem sep_dig {c : UInt8} (h : sep c = true) : isDig c = false := by
  have := sep_cases h
  simp [isDig]; omega

/-- nothing, or a byte that parts tokens -/
def Parted (rest : List UInt8) : Prop := ∀ c, rest.head? = some c → sep c = true

def quoteS (k : Int) (t : List UInt8) : List UInt8 := if k = 3 then 34 :: (t ++ [34]) else t

def rightS (k : Int) (t : List UInt8) : Bool :=
  if k = 3 then decide (t.length ≤ 60) && (pre isStr t == t.length) else ((scanS t).1 : Int) == k && (scanS t).2.1 == t.length && (scanS t).2.2 == 0

theorem two_parted {c : UInt8} {rest : List UInt8} (h : Parted rest) : two (c :: rest) = two [c] := by
  cases rest with
  | nil => rfl
  | cons d r =>
    have hd := sep_cases (h d rfl)
    have e1 : ¬ d = 62 := by rintro rfl; simp at hd
    have e2 : ¬ d = 61 := by rintro rfl; simp at hd
    simp [two, e1, e2]

theorem two_append {c d : UInt8} {r rest : List UInt8} : two (c :: d :: r ++ rest) = two (c :: d :: r) := by simp [two]

theorem strS_parts {t rest : List UInt8} (h : ∀ c ∈ t, isStr c = true) (hl : t.length ≤ 60) : strS (t ++ 34 :: rest) = (3, t.length + 2, 0) := by
  have hp : pre isStr (t ++ 34 :: rest) = t.length := pre_all h (by intro c hc; simp at hc; subst hc; rfl)
  have hd : (t ++ 34 :: rest).drop t.length = 34 :: rest := by simp
  unfold strS
  rw [hp, hd]
  simp
  omega

theorem strS_kind {r : List UInt8} {k n : Nat} (h : strS r = (k, n, 0)) : k = 3 ∧ ∃ rest, r = r.take (n - 2) ++ 34 :: rest ∧ n - 2 = pre isStr r ∧ 2 ≤ n ∧ n ≤ 62 := by
  unfold strS at h
  split at h
  · simp at h
  · rename_i c rest hd
    split at h
    · rename_i hc
      split at h
      · simp at h
      · simp only [Prod.mk.injEq] at h
        obtain ⟨h1, h2, _⟩ := h
        have hc' : c = 34 := by
          have : c = UInt8.ofNat 34 := by rw [← hc]; simp
          simpa using this
        subst hc'
        refine ⟨h1.symm, rest, ?_, by omega, by omega, by omega⟩
        rw [show n - 2 = pre isStr r from by omega, ← hd, List.take_append_drop]
    · simp at h

theorem scan_nil_bad : scanS [] = (0, 0, 2) := rfl

/-- L1: a right token, with what parts it from the next one, is read. -/
theorem scan_right {k : Int} {t rest : List UInt8} (h : rightS k t = true) (hr : Parted rest) :
    scanS (quoteS k t ++ rest) = (k.toNat, (quoteS k t).length, 0) ∧ textS k.toNat (quoteS k t).length (quoteS k t ++ rest) = t ∧ 1 ≤ k ∧ k ≤ 4 := by
  unfold rightS at h
  by_cases hk : k = 3
  · subst hk
    simp only [if_true, Bool.and_eq_true, decide_eq_true_eq, beq_iff_eq] at h
    have hs := strS_parts (rest := rest) (pre_full h.2) h.1
    refine ⟨?_, ?_, by omega, by omega⟩
    · have : quoteS 3 t ++ rest = 34 :: (t ++ 34 :: rest) := by simp [quoteS]
      rw [this]
      unfold scanS
      simp only [show isLet 34 = false from rfl, show isDig 34 = false from rfl]
      simpa [quoteS] using hs
    · simp [quoteS, textS]
  · simp only [if_neg hk, Bool.and_eq_true, beq_iff_eq] at h
    obtain ⟨⟨h1, h2⟩, h3⟩ := h
    have hq : quoteS k t = t := by simp [quoteS, hk]
    rw [hq]
    have hkn : (scanS t).1 = k.toNat := by omega
    cases t with
    | nil => simp [scanS] at h3
    | cons c r =>
      have htx : textS k.toNat (c :: r).length (c :: r ++ rest) = c :: r := by
        unfold textS
        rw [if_neg (by omega)]
        simp
      by_cases hl : isLet c = true
      · have e : scanS (c :: r) = runS 1 20 isNam (c :: r) := by simp [scanS, hl]
        rw [e] at h1 h2 h3
        unfold runS at h1 h2 h3
        split at h3
        · simp at h3
        · rename_i hm
          simp only [if_neg hm] at h1 h2
          have hp : pre isNam (c :: r ++ rest) = (c :: r).length := pre_all (pre_full h2) (fun d hd => sep_nam (hr d hd))
          refine ⟨?_, htx, by omega, by omega⟩
          have e2 : scanS (c :: r ++ rest) = runS 1 20 isNam (c :: r ++ rest) := by simp [scanS, hl]
          rw [e2]
          unfold runS
          rw [hp, if_neg (by rw [← h2]; exact hm)]
          simp; omega
      · by_cases hdg : isDig c = true
        · have e : scanS (c :: r) = runS 2 9 isDig (c :: r) := by simp [scanS, hl, hdg]
          rw [e] at h1 h2 h3
          unfold runS at h1 h2 h3
          split at h3
          · simp at h3
          · rename_i hm
            simp only [if_neg hm] at h1 h2
            have hp : pre isDig (c :: r ++ rest) = (c :: r).length := pre_all (pre_full h2) (fun d hd => sep_dig (hr d hd))
            refine ⟨?_, htx, by omega, by omega⟩
            have e2 : scanS (c :: r ++ rest) = runS 2 9 isDig (c :: r ++ rest) := by simp [scanS, hl, hdg]
            rw [e2]
            unfold runS
            rw [hp, if_neg (by rw [← h2]; exact hm)]
            simp; omega
        · by_cases hq4 : c.toNat = 34
          · exfalso
            have e : scanS (c :: r) = strS r := by simp [scanS, hl, hdg, hq4]
            rw [e] at h1 h2 h3
            have : strS r = ((strS r).1, (strS r).2.1, 0) := by rw [← h3]
            have := (strS_kind this).1
            omega
          · have e : ∀ x, scanS (c :: x) = signS (c :: x) := by intro x; simp [scanS, hl, hdg, hq4]
            rw [e] at h1 h2 h3
            rw [List.cons_append, e]
            cases r with
            | nil =>
              have ht := two_parted (c := c) hr
              have ht1 : two [c] = false := by simp [two]
              rw [ht1] at ht
              have es : ∀ x, two (c :: x) = false → signS (c :: x) = if signBytes.contains c = true then (4, 1, 0) else (0, 0, 2) := by
                intro x hx; unfold signS; rw [hx]; rfl
              rw [es [] ht1] at h1 h2 h3
              rw [List.nil_append, es rest ht]
              by_cases h4 : signBytes.contains c = true
              · rw [if_pos h4] at h1 ⊢
                simp at h1
                subst h1
                exact ⟨by simp, by simpa using htx, by omega, by omega⟩
              · rw [if_neg h4] at h3
                simp at h3
            | cons d r' =>
              have ht : two (c :: (d :: r' ++ rest)) = two (c :: d :: r') := two_append
              unfold signS at h1 h2 h3 ⊢
              rw [ht]
              split at h3
              · rename_i h4
                simp only [h4, if_true] at h1 h2 ⊢
                simp at h1 h2
                subst h1 h2
                exact ⟨by simp, by simpa using htx, by omega, by omega⟩
              · rename_i h4
                exfalso
                simp only [h4] at h2
                split at h3
                · rename_i h5
                  simp only [h5] at h2
                  simp at h2
                · simp at h3
theorem skip_len (b : Bool) (l : List UInt8) (n : Nat) : (skipS b l n).1.length ≤ l.length := by
  induction l generalizing b n with
  | nil => simp [skipS]
  | cons c r ih =>
    simp only [skipS]
    repeat' split
    all_goals first | (exact Nat.le_trans (ih _ _) (by simp)) | simp

theorem scan_pos {l : List UInt8} {k n : Nat} (h : scanS l = (k, n, 0)) : 1 ≤ n ∧ n ≤ l.length := by
  cases l with
  | nil => simp [scanS] at h
  | cons c r =>
    simp only [scanS] at h
    split at h
    · rename_i hc
      simp only [runS] at h
      split at h
      · simp at h
      · simp only [Prod.mk.injEq] at h
        obtain ⟨_, h, _⟩ := h
        have := pre_le isNam (c :: r)
        have h2 : isNam c = true := by simp [isNam, hc]
        simp only [pre, h2, if_true] at h this
        exact ⟨by omega, by omega⟩
    · split at h
      · rename_i hc
        simp only [runS] at h
        split at h
        · simp at h
        · simp only [Prod.mk.injEq] at h
          obtain ⟨_, h, _⟩ := h
          have := pre_le isDig (c :: r)
          simp only [pre, hc, if_true] at h this
          exact ⟨by omega, by omega⟩
      · split at h
        · simp only [strS] at h
          split at h
          · simp at h
          · rename_i c' r' hd
            have hl : (r.drop (pre isStr r)).length = r'.length + 1 := by rw [hd]; rfl
            rw [List.length_drop] at hl
            split at h
            · split at h
              · simp at h
              · simp only [Prod.mk.injEq] at h
                simp; omega
            · simp at h
        · simp only [signS] at h
          split at h
          · rename_i ht
            simp only [Prod.mk.injEq] at h
            cases r with
            | nil => simp [two] at ht
            | cons d r' => simp; omega
          · split at h
            · simp only [Prod.mk.injEq] at h; simp; omega
            · simp at h

/-- L3: what is read is a right token, and as long as it was read. -/
theorem right_scan {l : List UInt8} {k n : Nat} (h : scanS l = (k, n, 0)) :
    rightS k (textS k n l) = true ∧ (quoteS k (textS k n l)).length = n := by
  cases l with
  | nil => simp [scanS] at h
  | cons c r =>
    by_cases hl : isLet c = true
    · have e : ∀ x, scanS (c :: x) = runS 1 20 isNam (c :: x) := by intro x; simp [scanS, hl]
      rw [e] at h
      unfold runS at h
      split at h
      · simp at h
      · rename_i hm
        simp only [Prod.mk.injEq] at h
        obtain ⟨rfl, rfl, _⟩ := h
        have hp := pre_le isNam (c :: r)
        have h1 : pre isNam (c :: r) = pre isNam r + 1 := by simp [pre, isNam, hl]
        have hlen : ((c :: r).take (pre isNam (c :: r))).length = pre isNam (c :: r) := by rw [List.length_take]; omega
        have ht : textS 1 (pre isNam (c :: r)) (c :: r) = (c :: r).take (pre isNam (c :: r)) := by simp [textS]
        have hs : scanS ((c :: r).take (pre isNam (c :: r))) = (1, pre isNam (c :: r), 0) := by
          have : (c :: r).take (pre isNam (c :: r)) = c :: r.take (pre isNam r) := by rw [h1]; rfl
          rw [this, e, ← this]
          unfold runS
          rw [pre_take_eq, if_neg hm]
        refine ⟨?_, ?_⟩
        · unfold rightS
          rw [ht, hs, if_neg (by decide), hlen]
          simp
        · simp [quoteS, ht, hlen]
    · by_cases hdg : isDig c = true
      · have e : ∀ x, scanS (c :: x) = runS 2 9 isDig (c :: x) := by intro x; simp [scanS, hl, hdg]
        rw [e] at h
        unfold runS at h
        split at h
        · simp at h
        · rename_i hm
          simp only [Prod.mk.injEq] at h
          obtain ⟨rfl, rfl, _⟩ := h
          have hp := pre_le isDig (c :: r)
          have h1 : pre isDig (c :: r) = pre isDig r + 1 := by simp [pre, hdg]
          have hlen : ((c :: r).take (pre isDig (c :: r))).length = pre isDig (c :: r) := by rw [List.length_take]; omega
          have ht : textS 2 (pre isDig (c :: r)) (c :: r) = (c :: r).take (pre isDig (c :: r)) := by simp [textS]
          have hs : scanS ((c :: r).take (pre isDig (c :: r))) = (2, pre isDig (c :: r), 0) := by
            have : (c :: r).take (pre isDig (c :: r)) = c :: r.take (pre isDig r) := by rw [h1]; rfl
            rw [this, e, ← this]
            unfold runS
            rw [pre_take_eq, if_neg hm]
          refine ⟨?_, ?_⟩
          · unfold rightS
            rw [ht, hs, if_neg (by decide), hlen]
            simp
          · simp [quoteS, ht, hlen]
      · by_cases hq4 : c.toNat = 34
        · have e : ∀ x, scanS (c :: x) = strS x := by intro x; simp [scanS, hl, hdg, hq4]
          rw [e] at h
          obtain ⟨rfl, rest, hr, hn, h2, h62⟩ := strS_kind h
          have hpl := pre_le isStr r
          have ht : textS 3 n (c :: r) = r.take (n - 2) := by
            unfold textS
            rw [if_pos rfl, show n - 1 = (n - 2) + 1 from by omega, List.take_succ_cons]
            rfl
          have hlen : (r.take (n - 2)).length = n - 2 := by rw [List.length_take]; omega
          refine ⟨?_, ?_⟩
          · unfold rightS
            rw [ht, if_pos (by decide), hlen, hn, pre_take_eq]
            simp
            omega
          · simp [quoteS, ht]; omega
        · have e : ∀ x, scanS (c :: x) = signS (c :: x) := by intro x; simp [scanS, hl, hdg, hq4]
          rw [e] at h
          by_cases h2 : two (c :: r) = true
          · unfold signS at h
            rw [if_pos h2] at h
            simp only [Prod.mk.injEq] at h
            obtain ⟨rfl, rfl, _⟩ := h
            cases r with
            | nil => simp [two] at h2
            | cons d r' =>
              have ht : textS 4 2 (c :: d :: r') = [c, d] := by simp [textS]
              have hs : scanS [c, d] = (4, 2, 0) := by
                rw [e]
                unfold signS
                rw [if_pos (by simpa [two] using h2)]
              refine ⟨?_, ?_⟩
              · unfold rightS
                rw [ht, hs, if_neg (by decide)]
                simp
              · simp [quoteS, ht]
          · have es : ∀ x, two (c :: x) = false → signS (c :: x) = if signBytes.contains c = true then (4, 1, 0) else (0, 0, 2) := by
              intro x hx; unfold signS; rw [hx]; rfl
            rw [es r (by simpa using h2)] at h
            by_cases h4 : signBytes.contains c = true
            · rw [if_pos h4] at h
              simp only [Prod.mk.injEq] at h
              obtain ⟨rfl, rfl, _⟩ := h
              have ht : textS 4 1 (c :: r) = [c] := by simp [textS]
              have hs : scanS [c] = (4, 1, 0) := by
                rw [e, es [] (by simp [two]), if_pos h4]
              refine ⟨?_, ?_⟩
              · unfold rightS
                rw [ht, hs, if_neg (by decide)]
                simp
              · simp [quoteS, ht]
            · rw [if_neg h4] at h
              simp at h

/-- more fuel changes nothing -/
theorem run_fuel (f : Nat) : ∀ (acc : List Tok) (l : List UInt8) (ln g : Nat), l.length < f → f ≤ g → run g acc l ln = run f acc l ln := by
  induction f with
  | zero => intro acc l ln g h; omega
  | succ f ih =>
    intro acc l ln g h hg
    obtain ⟨g, rfl⟩ : ∃ g', g = g' + 1 := ⟨g - 1, by omega⟩
    simp only [run]
    have hl := skip_len false l ln
    split
    · rfl
    · rename_i c r ln' hs
      rw [hs] at hl
      simp only at hl
      rcases hsc : scanS (c :: r) with ⟨k, n, e⟩
      simp only
      split
      · rename_i he
        subst he
        split
        · rfl
        · refine ih _ _ _ _ ?_ (by omega)
          have := scan_pos hsc
          rw [List.length_drop]
          omega
      · rfl

theorem scan_head {c : UInt8} {r : List UInt8} {k n : Nat} (h : scanS (c :: r) = (k, n, 0)) : c.toNat ≠ 10 ∧ c.toNat ≠ 35 ∧ isBlk c = false := by
  by_cases hb : c.toNat = 32 ∨ c.toNat = 9 ∨ c.toNat = 13 ∨ c.toNat = 10 ∨ c.toNat = 35
  · exfalso
    have e1 : isLet c = false := by simp [isLet]; omega
    have e2 : isDig c = false := by simp [isDig]; omega
    have e3 : ¬ c.toNat = 34 := by omega
    have hc : c = 32 ∨ c = 9 ∨ c = 13 ∨ c = 10 ∨ c = 35 := by
      rcases hb with h | h | h | h | h
      · exact .inl (UInt8.toNat_inj.1 h)
      · exact .inr (.inl (UInt8.toNat_inj.1 h))
      · exact .inr (.inr (.inl (UInt8.toNat_inj.1 h)))
      · exact .inr (.inr (.inr (.inl (UInt8.toNat_inj.1 h))))
      · exact .inr (.inr (.inr (.inr (UInt8.toNat_inj.1 h))))
    simp only [scanS, e1, e2, if_neg e3] at h
    unfold signS at h
    rcases hc with rfl | rfl | rfl | rfl | rfl <;> simp [two, signBytes] at h
  · refine ⟨by omega, by omega, ?_⟩
    simp [isBlk]; omega

theorem skip_at {c : UInt8} {r : List UInt8} {k n : Nat} (h : scanS (c :: r) = (k, n, 0)) (ln : Nat) : skipS false (c :: r) ln = (c :: r, ln) := by
  obtain ⟨h1, h2, h3⟩ := scan_head h
  simp [skipS, h1, h2, h3]

def nl (g : List UInt8) : Nat := g.countP (fun c => c.toNat == 10)

/-- white space and comments, ended -/
def Gap (g : List UInt8) : Prop := ∀ x ln, skipS false (g ++ x) ln = skipS false x (ln + nl g)

theorem gap_nil : Gap [] := by intro x ln; simp [nl]
theorem gap_space : Gap [32] := by intro x ln; simp [nl, skipS, isBlk]
theorem gap_feed : Gap [10] := by intro x ln; simp [nl, skipS]

/-- what stands before a token, its kind, its text -/
structure Item where
  gap : List UInt8
  kind : Int
  text : List UInt8

def cat : List Item → List UInt8
  | [] => []
  | it :: r => it.gap ++ (quoteS it.kind it.text ++ cat r)

def lab : Nat → List Item → List Tok
  | _, [] => []
  | ln, it :: r => ⟨it.kind, it.text, (ln + nl it.gap : Nat)⟩ :: lab (ln + nl it.gap) r

def okItems : List Item → Prop
  | [] => True
  | it :: r => Gap it.gap ∧ rightS it.kind it.text = true ∧ Parted (cat r) ∧ okItems r

/-- the main lemma: what stands in a text token by token is read so -/
theorem run_cat (items : List Item) : ∀ (f : Nat) (acc : List Tok) (ln : Nat), (cat items).length < f → okItems items → acc.length + items.length ≤ 4000 →
    run f acc (cat items) ln = (acc ++ lab ln items, 0, 0) := by
  induction items with
  | nil =>
    intro f acc ln hf _ _
    obtain ⟨f, rfl⟩ : ∃ g, f = g + 1 := ⟨f - 1, by omega⟩
    simp [cat, run, skipS, lab]
  | cons it r ih =>
    intro f acc ln hf hok hn
    obtain ⟨hg, hr, hp, hr'⟩ := hok
    obtain ⟨hs, ht, hk1, hk4⟩ := scan_right hr hp
    obtain ⟨f, rfl⟩ : ∃ g, f = g + 1 := ⟨f - 1, by omega⟩
    have hlen : (cat (it :: r)).length = it.gap.length + ((quoteS it.kind it.text).length + (cat r).length) := by simp [cat]
    have hpos := (scan_pos hs).1
    cases hq : quoteS it.kind it.text ++ cat r with
    | nil =>
      rw [hq] at hs
      simp [scanS] at hs
    | cons c x =>
      rw [hq] at hs ht
      have hsk := skip_at hs (ln + nl it.gap)
      have hd : (c :: x).drop (quoteS it.kind it.text).length = cat r := by rw [← hq]; simp
      simp only [run, cat, hq, hg (c :: x) ln, hsk, hs]
      rw [if_pos trivial, if_neg (by simp at hn; omega), hd, ih f _ _ (by omega) hr' (by simp at hn ⊢; omega), ht]
      simp only [lab, List.append_assoc, List.singleton_append]
      rw [Int.toNat_of_nonneg (by omega)]

def quoted (ts : List Tok) : Nat := (ts.map fun t => (quoteS t.kind t.text).length).sum

/-- what is read are right tokens, which together are no longer than the text -/
theorem run_ok (f : Nat) : ∀ (acc : List Tok) (l : List UInt8) (ln : Nat) (ts : List Tok) (z : Nat), run f acc l ln = (ts, z, 0) → acc.length ≤ 4000 →
    ∃ new, ts = acc ++ new ∧ (∀ t ∈ new, rightS t.kind t.text = true) ∧ quoted new ≤ l.length ∧ new.length ≤ l.length ∧ ts.length ≤ 4000 := by
  induction f with
  | zero =>
    intro acc l ln ts z h ha
    simp only [run, Prod.mk.injEq] at h
    exact ⟨[], by simp [h.1], by simp, by simp [quoted], by simp, by rw [← h.1]; exact ha⟩
  | succ f ih =>
    intro acc l ln ts z h ha
    simp only [run] at h
    have hl := skip_len false l ln
    split at h
    · simp only [Prod.mk.injEq] at h
      exact ⟨[], by simp [h.1], by simp, by simp [quoted], by simp, by rw [← h.1]; exact ha⟩
    · rename_i c r ln' hs
      rw [hs] at hl
      simp only at hl
      rcases hsc : scanS (c :: r) with ⟨k, n, e⟩
      rw [hsc] at h
      simp only at h
      split at h
      · rename_i he
        subst he
        split at h
        · simp at h
        · rename_i h4
          obtain ⟨new, h1, h2, h3, h5, h6⟩ := ih _ _ _ _ _ h (by simp; omega)
          obtain ⟨hr, hq⟩ := right_scan hsc
          have hpos := scan_pos hsc
          have hd : ((c :: r).drop n).length = (c :: r).length - n := by rw [List.length_drop]
          refine ⟨⟨k, textS k n (c :: r), ln'⟩ :: new, by simp [h1], ?_, ?_, ?_, h6⟩
          · intro t ht
            rcases List.mem_cons.1 ht with rfl | ht
            · exact hr
            · exact h2 t ht
          · simp only [quoted, List.map_cons, List.sum_cons] at h3 ⊢
            rw [hq]
            omega
          · simp only [List.length_cons] at h5 ⊢ hd hl hpos
            omega
      · rename_i he
        simp only [Prod.mk.injEq] at h
        exact absurd h.2.2 he

/-! what Write gives -/
def sepB (a b : Int) : UInt8 := if a ≠ b then 10 else 32

def wmore : Int → List Tok → List UInt8
  | _, [] => []
  | ln, t :: r => sepB ln t.line :: (quoteS t.kind t.text ++ wmore t.line r)

def wtext : List Tok → List UInt8
  | [] => []
  | t :: r => quoteS t.kind t.text ++ wmore t.line r

def allRight (l : List Tok) : Bool := l.all fun t => rightS t.kind t.text

def writeS (l : List Tok) : List UInt8 × Nat :=
  if 4000 < l.length then ([], 3) else if allRight l then (if 20000 < (wtext l).length then ([], 3) else (wtext l, 0)) else ([], 1)

def moreItems : Int → List Tok → List Item
  | _, [] => []
  | ln, t :: r => ⟨[sepB ln t.line], t.kind, t.text⟩ :: moreItems t.line r

theorem cat_more (l : List Tok) : ∀ ln, cat (moreItems ln l) = wmore ln l := by
  induction l with
  | nil => intro ln; rfl
  | cons t r ih => intro ln; simp [moreItems, cat, wmore, ih]

theorem sepB_sep (a b : Int) : sep (sepB a b) = true := by unfold sepB; split <;> rfl
theorem sepB_gap (a b : Int) : Gap [sepB a b] := by
  unfold sepB
  split
  · exact gap_feed
  · exact gap_space

theorem parted_more (ln : Int) (l : List Tok) : Parted (wmore ln l) := by
  cases l with
  | nil => intro c hc; simp [wmore] at hc
  | cons t r => intro c hc; simp only [wmore, List.head?_cons, Option.some.injEq] at hc; subst hc; exact sepB_sep _ _

theorem ok_more (l : List Tok) : ∀ ln, allRight l = true → okItems (moreItems ln l) := by
  induction l with
  | nil => intro ln _; trivial
  | cons t r ih =>
    intro ln h
    simp only [allRight, List.all_cons, Bool.and_eq_true] at h
    exact ⟨sepB_gap _ _, h.1, by rw [cat_more]; exact parted_more _ _, ih _ h.2⟩

def items : List Tok → List Item
  | [] => []
  | t :: r => ⟨[], t.kind, t.text⟩ :: moreItems t.line r

theorem cat_items (l : List Tok) : cat (items l) = wtext l := by
  cases l with
  | nil => rfl
  | cons t r => simp [items, cat, wtext, cat_more]

theorem ok_items (l : List Tok) (h : allRight l = true) : okItems (items l) := by
  cases l with
  | nil => trivial
  | cons t r =>
    simp only [allRight, List.all_cons, Bool.and_eq_true] at h
    exact ⟨gap_nil, h.1, by rw [cat_more]; exact parted_more _ _, ok_more _ _ h.2⟩

theorem more_length (l : List Tok) : ∀ ln, (moreItems ln l).length = l.length := by
  induction l with
  | nil => intro ln; rfl
  | cons t r ih => intro ln; simp [moreItems, ih]
theorem items_length (l : List Tok) : (items l).length = l.length := by
  cases l with
  | nil => rfl
  | cons t r => simp [items, more_length]

/-- the same kinds and texts -/
def same (a b : List Tok) : Bool := a.map (fun t => (t.kind, t.text)) == b.map (fun t => (t.kind, t.text))

theorem lab_more (l : List Tok) : ∀ a ln, (lab ln (moreItems a l)).map (fun t => (t.kind, t.text)) = l.map (fun t => (t.kind, t.text)) := by
  induction l with
  | nil => intro a ln; rfl
  | cons t r ih => intro a ln; simp [moreItems, lab, ih]
theorem lab_items (l : List Tok) (ln : Nat) : (lab ln (items l)).map (fun t => (t.kind, t.text)) = l.map (fun t => (t.kind, t.text)) := by
  cases l with
  | nil => rfl
  | cons t r => simp [items, lab, lab_more]

/-- P1.2: Tokens of what Write returns has the same kinds and texts. -/
theorem write_read {l : List Tok} {t : List UInt8} (h : writeS l = (t, 0)) : ∃ b, toksS t = (b, 0, 0) ∧ same b l = true := by
  unfold writeS at h
  split at h
  · simp at h
  · rename_i h4
    split at h
    · rename_i hr
      split at h
      · simp at h
      · rename_i h2
        simp only [Prod.mk.injEq, and_true] at h
        subst h
        refine ⟨lab 1 (items l), ?_, ?_⟩
        · unfold toksS
          rw [if_neg h2, ← cat_items, run_cat (items l) _ [] 1 (by omega) (ok_items l hr) (by simp [items_length]; omega)]
          rfl
        · simp [same, lab_items]
    · simp at h

theorem wmore_length (l : List Tok) : ∀ ln, (wmore ln l).length = l.length + quoted l := by
  induction l with
  | nil => intro ln; simp [wmore, quoted]
  | cons t r ih =>
    intro ln
    simp only [wmore, List.length_cons, List.length_append, ih, quoted, List.map_cons, List.sum_cons]
    omega
theorem wtext_length (l : List Tok) : (wtext l).length ≤ l.length + quoted l := by
  cases l with
  | nil => simp [wtext]
  | cons t r =>
    simp only [wtext, List.length_append, wmore_length, quoted, List.map_cons, List.sum_cons, List.length_cons]
    omega

/-- P1.2: writing the tokens of a text and reading them again gives the same list (texts of up to 10000 bytes). -/
theorem again {s : List UInt8} {a : List Tok} {z : Nat} (hs : s.length ≤ 10000) (h : toksS s = (a, z, 0)) : writeS a = (wtext a, 0) := by
  unfold toksS at h
  rw [if_neg (by omega)] at h
  obtain ⟨new, h1, h2, h3, h5, h6⟩ := run_ok _ _ _ _ _ _ h (by simp)
  simp only [List.nil_append] at h1
  subst h1
  have := wtext_length a
  unfold writeS
  rw [if_neg (by omega), if_pos (by simpa [allRight] using h2), if_neg (by omega)]


/-! numbers -/
def numS (l : List UInt8) : Nat := l.foldl (fun n c => 10 * n + (c.toNat - 48)) 0

theorem numS_snoc (l : List UInt8) (c : UInt8) : numS (l ++ [c]) = 10 * numS l + (c.toNat - 48) := by simp [numS]

theorem numS_lt (l : List UInt8) (h : ∀ c ∈ l, isDig c = true) : numS l < 10 ^ l.length := by
  rw [← List.reverse_reverse l] at h ⊢
  generalize l.reverse = r at *
  induction r with
  | nil => simp [numS]
  | cons c r ih =>
    rw [List.reverse_cons, numS_snoc]
    have h1 := ih (fun x hx => h x (by simp at hx ⊢; exact .inl hx))
    have h2 := h c (by simp)
    simp [isDig] at h2
    simp only [List.length_append, List.length_reverse, List.length_cons, List.length_nil, Nat.zero_add, Nat.pow_succ] at h1 ⊢
    omega

theorem numS_lt9 (l : List UInt8) (h : ∀ c ∈ l, isDig c = true) (hl : l.length ≤ 9) : numS l < 1000000000 :=
  Nat.lt_of_lt_of_le (numS_lt l h) (Nat.le_trans (Nat.pow_le_pow_right (by decide) hl) (by decide))

theorem right_num {l : List UInt8} (h : rightS 2 l = true) : (∀ c ∈ l, isDig c = true) ∧ l.length ≤ 9 ∧ 1 ≤ l.length := by
  unfold rightS at h
  rw [if_neg (by decide)] at h
  simp only [Bool.and_eq_true, beq_iff_eq] at h
  obtain ⟨⟨h1, h2⟩, h3⟩ := h
  cases l with
  | nil => simp [scanS] at h3
  | cons c r =>
    by_cases hl : isLet c = true
    · have e : scanS (c :: r) = runS 1 20 isNam (c :: r) := by simp [scanS, hl]
      rw [e] at h1
      unfold runS at h1
      split at h1 <;> simp at h1
    · by_cases hd : isDig c = true
      · have e : scanS (c :: r) = runS 2 9 isDig (c :: r) := by simp [scanS, hl, hd]
        rw [e] at h2 h3
        unfold runS at h2 h3
        split at h3
        · simp at h3
        · rename_i h9
          rw [if_neg h9] at h2
          simp only at h2
          exact ⟨pre_full h2, by omega, by simp⟩
      · by_cases hq : c.toNat = 34
        · have e : scanS (c :: r) = strS r := by simp [scanS, hl, hd, hq]
          rw [e] at h1 h3
          have := (strS_kind (show strS r = ((strS r).1, (strS r).2.1, 0) by rw [← h3])).1
          omega
        · have e : scanS (c :: r) = signS (c :: r) := by simp [scanS, hl, hd, hq]
          rw [e] at h1
          unfold signS at h1
          split at h1
          · simp at h1
          · split at h1 <;> simp at h1


/-! Write, step by step -/
theorem right_len {k : Int} {t : List UInt8} (h : rightS k t = true) : t.length ≤ 60 := by
  unfold rightS at h
  by_cases hk : k = 3
  · rw [if_pos hk] at h
    simp at h
    exact h.1
  · rw [if_neg hk] at h
    simp only [Bool.and_eq_true, beq_iff_eq] at h
    obtain ⟨⟨h1, h2⟩, h3⟩ := h
    cases t with
    | nil => simp
    | cons c r =>
      simp only [scanS] at h1 h2 h3
      split at h3
      · rename_i hl
        rw [if_pos hl] at h2
        unfold runS at h2 h3
        split at h3
        · simp at h3
        · rename_i hm
          rw [if_neg hm] at h2
          simp only at h2
          omega
      · rename_i hl
        rw [if_neg hl] at h1 h2
        split at h3
        · rename_i hd
          rw [if_pos hd] at h2
          unfold runS at h2 h3
          split at h3
          · simp at h3
          · rename_i hm
            rw [if_neg hm] at h2
            simp only at h2
            omega
        · rename_i hd
          rw [if_neg hd] at h1 h2
          split at h3
          · rename_i hq
            rw [if_pos hq] at h1
            have := (strS_kind (show strS r = ((strS r).1, (strS r).2.1, 0) by rw [← h3])).1
            omega
          · rename_i hq
            rw [if_neg hq] at h2
            unfold signS at h2 h3
            split at h3
            · rename_i ht
              rw [if_pos ht] at h2
              simp only at h2
              omega
            · rename_i ht
              rw [if_neg ht] at h2
              split at h3
              · rename_i hs
                rw [if_pos hs] at h2
                simp only at h2
                omega
              · simp at h3

theorem quote_len {k : Int} {t : List UInt8} (h : rightS k t = true) : (quoteS k t).length ≤ 62 := by
  have := right_len h
  unfold quoteS
  split <;> simp <;> omega

theorem wmore_snoc (l : List Tok) (t : Tok) : ∀ ln, wmore ln (l ++ [t]) = wmore ln l ++ (sepB ((l.getLast?.map (·.line)).getD ln) t.line :: quoteS t.kind t.text) := by
  induction l with
  | nil => intro ln; simp [wmore]
  | cons a r ih =>
    intro ln
    simp only [List.cons_append, wmore, ih, List.append_assoc]
    cases r with
    | nil => simp
    | cons b r' => simp [List.getLast?_cons]

theorem wtext_snoc (l : List Tok) (t p : Tok) (h : l.getLast? = some p) : wtext (l ++ [t]) = wtext l ++ (sepB p.line t.line :: quoteS t.kind t.text) := by
  cases l with
  | nil => simp at h
  | cons a r =>
    simp only [List.cons_append, wtext, wmore_snoc, List.append_assoc]
    cases r with
    | nil => simp at h; subst h; rfl
    | cons b r' =>
      rw [List.getLast?_cons_cons] at h
      rw [h]; rfl

theorem wtext_one (t : Tok) : wtext [t] = quoteS t.kind t.text := by simp [wtext, wmore]

theorem take_last {l : List Tok} {k : Nat} (h : k + 1 ≤ l.length) : (l.take (k + 1)).getLast? = some l[k] := by
  rw [List.getLast?_take]
  simp

theorem allRight_snoc (l : List Tok) (k : Nat) (h : k < l.length) : allRight (l.take (k + 1)) = (allRight (l.take k) && rightS l[k].kind l[k].text) := by
  unfold allRight
  rw [List.take_succ_eq_append_getElem h, List.all_append, List.all_cons, List.all_nil, Bool.and_true]

theorem quoted_le (l : List Tok) (h : allRight l = true) : quoted l ≤ 62 * l.length := by
  induction l with
  | nil => simp [quoted]
  | cons t r ih =>
    simp only [allRight, List.all_cons, Bool.and_eq_true] at h
    have h1 := quote_len h.1
    have h2 := ih h.2
    simp only [quoted, List.map_cons, List.sum_cons, List.length_cons] at h2 ⊢
    omega
theorem wtext_le (l : List Tok) (h : allRight l = true) : (wtext l).length ≤ 63 * l.length := by
  have h1 := quoted_le l h
  have h2 := wtext_length l
  omega

theorem writeS_long {l : List Tok} (h : 4000 < l.length) : writeS l = ([], 3) := by unfold writeS; rw [if_pos h]
theorem writeS_bad {l : List Tok} {k : Nat} (h : ¬ 4000 < l.length) (hk : k < l.length) (hr : rightS l[k].kind l[k].text = false) : writeS l = ([], 1) := by
  unfold writeS
  have : allRight l = false := by
    unfold allRight
    rw [List.all_eq_false]
    exact ⟨l[k], List.getElem_mem hk, by rw [hr]; decide⟩
  rw [if_neg h, if_neg (by rw [this]; decide)]
theorem writeS_big {l : List Tok} (h : ¬ 4000 < l.length) (hr : allRight l = true) (h2 : 20000 < (wtext l).length) : writeS l = ([], 3) := by
  unfold writeS; rw [if_neg h, if_pos hr, if_pos h2]
theorem writeS_ok {l : List Tok} (h : ¬ 4000 < l.length) (hr : allRight l = true) (h2 : ¬ 20000 < (wtext l).length) : writeS l = (wtext l, 0) := by
  unfold writeS; rw [if_neg h, if_pos hr, if_neg h2]

end Go.Proofs.Ytgpcaofikmdpjaa
