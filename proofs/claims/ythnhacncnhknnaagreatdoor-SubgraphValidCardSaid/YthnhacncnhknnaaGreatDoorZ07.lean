import Derived.Test.YthnhacncnhknnaaGreatDoorZ06
/-
  Parts of graphs, the program: Extract. Printed by mkg6.py.
-/
namespace Go.Proofs.YthnhacncnhknnaaGreatDoor
open Go.RowKit Go.Shelf

def ExtPost (E : Nat) (Q : Gr) (R : Mo) (u : World) (e : Ending) (w' : World) : Prop := (∃ Gn gn Ge ge Xn xn Xe xe, e = .returned (.tuple #[gval Gn Q.ns.length gn Ge Q.es.length ge, gval Xn R.ns.length xn Xe R.es.length xe, .int .i64 (E : Int)]) ∧ GrAt w' Gn gn Ge ge Q ∧ Ints w' w'.heap.size Xn R.ns ∧ Ints w' w'.heap.size Xe R.es ∧ R.ns.length ≤ maxLen ∧ R.es.length ≤ maxLen) ∧ Below u.heap.size u w'
set_option maxRecDepth 100000 in
set_option maxHeartbeats 8000000 in
theorem extractG_any : ExtC 6 := by
  intro g p An cn Ae ce Pn pn Pe pe w hg hp
  suffices key : Calls Tryz.prog 6 #[gval An g.ns.length cn Ae g.es.length ce, gval Pn p.ns.length pn Pe p.es.length pe] w (ExtPost (partE g p) (extG g p) (extM g p) w) from key
  have hS0 : SR w [(.slice An g.ns.length cn, .slice Ae g.es.length ce, 25), (.slice Pn p.ns.length pn, .slice Pe p.es.length pe, 27), (.slice none 0 0, .slice none 0 0, 25), (.slice none 0 0, .slice none 0 0, 30)] ((((w.alloc (.cells #[.slice An g.ns.length cn, .slice Ae g.es.length ce] 25)).alloc (.cells #[.slice Pn p.ns.length pn, .slice Pe p.es.length pe] 27)).alloc (.cells #[.slice none 0 0, .slice none 0 0] 25)).alloc (.cells #[.slice none 0 0, .slice none 0 0] 30)) := SR.push (SR.push (SR.push (SR.push (SR.nil w) rfl _ _ _) (by simp) _ _ _) (by simp) _ _ _) (by simp) _ _ _
  have HV := Lib.hid (fun (u : World) (hu : Below w.heap.size w u) => validG_any g p An cn Ae ce Pn pn Pe pe u (hg.up hu) (hp.up hu))
  have HMA := Lib.hid (fun (h : Asc p.ns ∧ g.ns.length ≤ 1000) (u : World) (hu : Below w.heap.size w u) => missI p.ns g.ns.length Pn pn u hp.ln h.2 (Reads.up hp.ns hu) h.1)
  have HMB := Lib.hid (fun (h : Asc p.es ∧ g.es.length ≤ 1000) (u : World) (hu : Below w.heap.size w u) => missI p.es g.es.length Pe pe u hp.le h.2 (Reads.up hp.es hu) h.1)
  have HCA := Lib.hid (fun (u : World) (hu : Below w.heap.size w u) => cloneI_any p.ns Pn u.heap.size pn u (by have := hp.ln; omega) (Reads.up hp.ns hu))
  have HCB := Lib.hid (fun (u : World) (hu : Below w.heap.size w u) => cloneI_any p.es Pe u.heap.size pe u (by have := hp.le; omega) (Reads.up hp.es hu))
  have HRM : Hid (partE g p = 0 → ∀ X x Y y (u : World), Below w.heap.size w u → Ints u u.heap.size X (mis p.ns g.ns.length) → Ints u u.heap.size Y (mis p.es g.es.length) → Calls Tryz.prog 25 #[gval An g.ns.length cn Ae g.es.length ce, .slice X (mis p.ns g.ns.length).length x, .slice Y (mis p.es g.es.length).length y] u fun e w' => (∃ (Gn : Option Addr) (gn : Nat) (Ge : Option Addr) (ge : Nat) (Kn : Option Addr) (kn : Nat × Nat) (Ke : Option Addr) (ke : Nat × Nat), e = .returned (.tuple #[gval Gn (subG g p).ns.length gn Ge (subG g p).es.length ge, .agg #[.slice Kn kn.1 kn.2, .slice Ke ke.1 ke.2], .int .i64 0]) ∧ GrAt w' Gn gn Ge ge (subG g p)) ∧ Below u.heap.size u w') := Lib.hid fun h X x Y y u hu hX hY => by
    obtain ⟨hv, hk⟩ := part_zero.1 h
    obtain ⟨v1, v2, _⟩ := valid_zero hv
    have l1 := sel_le (fun i => !inB p.ns i) g.ns.length
    have l2 := sel_le (fun i => !inB p.es i) g.es.length
    refine (remP g _ _ An cn Ae ce X Y x y u (show (mis p.ns g.ns.length).length ≤ 1000 from Nat.le_trans l1 (by omega)) (show (mis p.es g.es.length).length ≤ 1000 from Nat.le_trans l2 (by omega)) (hg.up hu) hX hY).mono ?_
    rintro e w' ⟨⟨v, k, rfl, ⟨Gn, gn, Ge, ge, rfl, h1⟩, Kn, kn, Ke, ke, rfl, h2⟩, hb⟩
    rw [rem_sub hv hk] at h1 ⊢
    rw [rem_none hv hk]
    exact ⟨⟨Gn, gn, Ge, ge, Kn, (_, kn), Ke, (_, ke), rfl, h1⟩, hb⟩
  have HZ : Hid (partE g p = 0 → (Asc p.ns ∧ g.ns.length ≤ 1000) ∧ (Asc p.es ∧ g.es.length ≤ 1000)) := Lib.hid fun h => by
    obtain ⟨hv, hk⟩ := part_zero.1 h
    obtain ⟨v1, v2, _⟩ := valid_zero hv
    exact ⟨⟨hk.an, by omega⟩, ⟨hk.ae, by omega⟩⟩
  have HIG : Hid (extG g p = if partE g p = 0 then subG g p else noG) := Lib.hid rfl
  have HIM : Hid (extM g p = if partE g p = 0 then p else noM) := Lib.hid rfl
  have HPL := Lib.hid (And.intro hp.ln hp.le)
  have HS0 := Lib.hid hS0
  clear hS0 hg hp
  generalize extG g p = RG at *
  generalize extM g p = RM at *
  generalize partE g p = E at *
  generalize subG g p = Q at *
  generalize mis p.ns g.ns.length = ms1 at *
  generalize mis p.es g.es.length = ms2 at *
  go_enter Tryz.func6, Tryz.ntmps6
  obtain ⟨c0, c1⟩ := HS0.out.cell (i := 0) rfl
  obtain ⟨c2, c3⟩ := HS0.out.cell (i := 1) rfl
  simp only [Nat.add_zero] at c0 c1
  go_wp2_with fail
  refine (HV.out _ HS0.out.1).mono ?_
  rintro e w1 ⟨rfl, hb1⟩
  have HS1 := Lib.hid (HS0.out.up hb1)
  clear hb1 HS0 HV c0 c1 c2 c3
  obtain ⟨c0, c1⟩ := HS1.out.cell (i := 0) rfl
  obtain ⟨c2, c3⟩ := HS1.out.cell (i := 1) rfl
  simp only [Nat.add_zero] at c0 c1
  by_cases h1 : E = 0
  case neg =>
    have HR1 := Lib.hid (show RG = noG by rw [HIG.out, if_neg h1])
    have HR2 := Lib.hid (show RM = noM by rw [HIM.out, if_neg h1])
    have t1 : ((E : Int) != 0) = true := by simp; omega
    have hS2 := HS1.out.set (i := 2) rfl (.slice none 0 0) (.slice none 0 0)
    have hS3 := hS2.set (i := 3) rfl (.slice none 0 0) (.slice none 0 0)
    obtain ⟨c4, c5⟩ := HS1.out.cell (i := 2) rfl
    have fr0 := HS1.out.free (i := 2) rfl 0
    have fr1 := HS1.out.free (i := 2) rfl 1
    obtain ⟨c6, c7⟩ := hS2.cell (i := 3) rfl
    have fr2 := hS2.free (i := 3) rfl 0
    have fr3 := hS2.free (i := 3) rfl 1
    have HS3 := Lib.hid hS3
    clear h1 hS2 hS3 c0 c1 c2 c3
    go_wp2_with fail
    obtain ⟨r0, r1⟩ := HS3.out.cell (i := 2) rfl
    obtain ⟨r2, r3⟩ := HS3.out.cell (i := 3) rfl
    refine bodyPost_ret (v := .tuple #[gval none 0 0 none 0 0, gval none 0 0 none 0 0, .int .i64 ((E : Nat))]) (by simp [results, Tryz.results6, go_sem, r0, r1, r2, r3]) rfl ?_
    rw [HR1.out, HR2.out]
    unfold ExtPost
    exact ⟨⟨none, 0, none, 0, none, 0, none, 0, rfl, ⟨.inl rfl, .inl rfl, ⟨Nat.le_refl _, Nat.zero_le _⟩, ⟨Nat.le_refl _, Nat.zero_le _⟩⟩, .inl rfl, .inl rfl, Nat.zero_le _, Nat.zero_le _⟩, HS3.out.1⟩
  obtain ⟨z1, z2⟩ := HZ.out h1
  have HRG := Lib.hid (show RG = Q by rw [HIG.out, if_pos h1])
  have HRP := Lib.hid (show RM = p by rw [HIM.out, if_pos h1])
  have HMA2 := Lib.hid (HMA.out z1)
  have HMB2 := Lib.hid (HMB.out z2)
  have HRM2 := Lib.hid (HRM.out h1)
  have HEE := Lib.hid h1
  have t1 : ((E : Int) != 0) = false := by simp; omega
  clear h1 HZ z1 z2 HMA HMB HRM HIG HIM
  go_upto_region 4 with fail
  clear t1
  go_cut [8] (fun u wc => ∃ (g8 : Nat) (Gn : Option Addr) (gn : Nat) (Ge : Option Addr) (ge : Nat), u = .pointer (some ⟨g8, 0, none⟩) ∧ w.heap.size + 4 ≤ g8 ∧ BX g8 (.slice Gn Q.ns.length gn) (.slice Ge Q.es.length ge) 25 wc ∧ GrAt wc Gn gn Ge ge Q ∧ SR w [(.slice An g.ns.length cn, .slice Ae g.es.length ce, 25), (.slice Pn p.ns.length pn, .slice Pe p.es.length pe, 27), (.slice none 0 0, .slice none 0 0, 25), (.slice none 0 0, .slice none 0 0, 30)] wc)
  case first =>
    go_wp2_with fail
    have HMM : Hid (∀ u, SR w [(.slice An g.ns.length cn, .slice Ae g.es.length ce, 25), (.slice Pn p.ns.length pn, .slice Pe p.es.length pe, 27), (.slice none 0 0, .slice none 0 0, 25), (.slice none 0 0, .slice none 0 0, 30)] u → (fun u : World => u.cell? ⟨w.heap.size, 0, none⟩ = some (.slice An g.ns.length cn) ∧ u.cell? ⟨w.heap.size, 1, none⟩ = some (.slice Ae g.es.length ce) ∧ u.cell? ⟨w.heap.size + 1, 0, none⟩ = some (.slice Pn p.ns.length pn) ∧ u.cell? ⟨w.heap.size + 1, 1, none⟩ = some (.slice Pe p.es.length pe)) u) := Lib.hid fun u hu => ⟨(hu.cell (i := 0) rfl).1, (hu.cell (i := 0) rfl).2, (hu.cell (i := 1) rfl).1, (hu.cell (i := 1) rfl).2⟩
    have S_wd := Lib.hid (HS1.out.up (below_d w1))
    have WD_wd := Lib.hid (Below.refl w1.drew.heap.size w1.drew)
    have lsr : w.heap.size + 4 ≤ w1.drew.heap.size := heap_lt (S_wd.out.2 3 _ rfl)
    clear c0 c1 c2 c3 HS1
    refine wp_region_noPanic ?_
    refine wp_region_held_drew (S := (fun u : World => u.cell? ⟨w.heap.size, 0, none⟩ = some (.slice An g.ns.length cn) ∧ u.cell? ⟨w.heap.size, 1, none⟩ = some (.slice Ae g.es.length ce) ∧ u.cell? ⟨w.heap.size + 1, 0, none⟩ = some (.slice Pn p.ns.length pn) ∧ u.cell? ⟨w.heap.size + 1, 1, none⟩ = some (.slice Pe p.es.length pe))) (by kernel_rfl) (HMM.out _ S_wd.out) (fun hHeld => ?_)
    generalize w1.drew = wd at *
    refine wpAnyH_take (i := 0) (v := ?_) (oper_at (r := _) rfl) (by kernel_rfl) (by kernel_rfl) (by kernel_rfl) (fun _ _ _ h => h) (Or.inl ⟨by rfl, ?_⟩) (by assumption) ?_
    rotate_left
    · intro w hSw; try dsimp only at hSw
      go_simp
      try with_reducible rfl
    try simp only [Act.put, List.setIfInBounds_toArray, List.set_cons_zero, List.set_cons_succ]
    refine wpAnyH_take (i := 1) (v := ?_) (oper_at (r := _) rfl) (by kernel_rfl) (by kernel_rfl) (by kernel_rfl) (fun _ _ _ h => h) (Or.inl ⟨by rfl, ?_⟩) (by assumption) ?_
    rotate_left
    · intro w hSw; try dsimp only at hSw
      go_simp
      try with_reducible rfl
    try simp only [Act.put, List.setIfInBounds_toArray, List.set_cons_zero, List.set_cons_succ]
    refine wpAnyH_take (i := 2) (v := ?_) (oper_at (r := _) rfl) (by kernel_rfl) (by kernel_rfl) (by kernel_rfl) (fun _ _ _ h => h) (Or.inl ⟨by rfl, ?_⟩) (by assumption) ?_
    rotate_left
    · intro w hSw; try dsimp only at hSw
      go_simp
      try with_reducible rfl
    try simp only [Act.put, List.setIfInBounds_toArray, List.set_cons_zero, List.set_cons_succ]
    refine wpAnyH_take (i := 3) (v := ?_) (oper_at (r := _) rfl) (by kernel_rfl) (by kernel_rfl) (by kernel_rfl) (fun _ _ _ h => h) (Or.inl ⟨by rfl, ?_⟩) (by assumption) ?_
    rotate_left
    · intro w hSw; try dsimp only at hSw
      go_simp
      try with_reducible rfl
    try simp only [Act.put, List.setIfInBounds_toArray, List.set_cons_zero, List.set_cons_succ]
    refine wpAnyH_take (i := 4) (v := ?_) (oper_at (r := _) rfl) (by kernel_rfl) (by kernel_rfl) (by kernel_rfl) (fun _ _ _ h => h) (Or.inl ⟨by rfl, ?_⟩) (by assumption) ?_
    rotate_left
    · intro w hSw; try dsimp only at hSw
      go_simp
      try with_reducible rfl
    try simp only [Act.put, List.setIfInBounds_toArray, List.set_cons_zero, List.set_cons_succ]
    refine wpAnyH_take (i := 5) (v := ?_) (oper_at (r := _) rfl) (by kernel_rfl) (by kernel_rfl) (by kernel_rfl) (fun _ _ _ h => h) (Or.inl ⟨by rfl, ?_⟩) (by assumption) ?_
    rotate_left
    · intro w hSw; try dsimp only at hSw
      go_simp
      try with_reducible rfl
    try simp only [Act.put, List.setIfInBounds_toArray, List.set_cons_zero, List.set_cons_succ]
    refine wpAnyH_take (i := 7) (v := ?_) (oper_at (r := _) rfl) (by kernel_rfl) (by kernel_rfl) (by kernel_rfl) (fun _ _ _ h => h) (Or.inl ⟨by rfl, ?_⟩) (by assumption) ?_
    rotate_left
    · intro w hSw; try dsimp only at hSw
      go_simp
      try with_reducible rfl
    try simp only [Act.put, List.setIfInBounds_toArray, List.set_cons_zero, List.set_cons_succ]
    refine wpAnyH_take (i := 8) (v := ?_) (oper_at (r := _) rfl) (by kernel_rfl) (by kernel_rfl) (by kernel_rfl) (fun _ _ _ h => h) (Or.inl ⟨by rfl, ?_⟩) (by assumption) ?_
    rotate_left
    · intro w hSw; try dsimp only at hSw
      go_simp
      try with_reducible rfl
    try simp only [Act.put, List.setIfInBounds_toArray, List.set_cons_zero, List.set_cons_succ]
    refine wpAnyH_take (i := 9) (v := ?_) (oper_at (r := _) rfl) (by kernel_rfl) (by kernel_rfl) (by kernel_rfl) (fun _ _ _ h => h) (Or.inl ⟨by rfl, ?_⟩) (by assumption) ?_
    rotate_left
    · intro w hSw; try dsimp only at hSw
      go_simp
      try with_reducible rfl
    try simp only [Act.put, List.setIfInBounds_toArray, List.set_cons_zero, List.set_cons_succ]
    refine wpAnyH_take (i := 10) (v := ?_) (oper_at (r := _) rfl) (by kernel_rfl) (by kernel_rfl) (by kernel_rfl) (fun _ _ _ h => h) (Or.inl ⟨by rfl, ?_⟩) (by assumption) ?_
    rotate_left
    · intro w hSw; try dsimp only at hSw
      go_simp
      try with_reducible rfl
    try simp only [Act.put, List.setIfInBounds_toArray, List.set_cons_zero, List.set_cons_succ]
    refine wpAnyH_take (i := 11) (v := ?_) (oper_at (r := _) rfl) (by kernel_rfl) (by kernel_rfl) (by kernel_rfl) (fun _ _ _ h => h) (Or.inl ⟨by rfl, ?_⟩) (by assumption) ?_
    rotate_left
    · intro w hSw; try dsimp only at hSw
      go_simp
      try with_reducible rfl
    try simp only [Act.put, List.setIfInBounds_toArray, List.set_cons_zero, List.set_cons_succ]
    refine wpAnyH_ready (rs := [6, 18, 19]) (by kernel_rfl) (by simp) ?_
    refine (AllReadyH.cons (oper_at (r := _) rfl) (fun K hK => ?_) (AllReadyH.cons (oper_at (r := _) rfl) (fun K hK => ?_) (AllReadyH.cons (oper_at (r := _) rfl) (fun K hK => ?_) AllReadyH.nil)))
    · skip
      go_simp
      refine (HMA2.out _ S_wd.out.1).mono ?_
      rintro e W1 ⟨⟨X1, x1, rfl, r1⟩, hb⟩
      have S_W1 := Lib.hid (S_wd.out.up hb)
      have WD_W1 := Lib.hid (WD_wd.out.trans (hb.mono WD_wd.out.size))
      clear S_wd WD_wd
      have MA_W1 := Lib.hid r1
      clear hb r1
      go_wp2_with fail
      refine hK.out _ _ (HMM.out _ S_W1.out) (fun _ => ?_)
      clear hK K
      try simp only [Act.put, List.setIfInBounds_toArray, List.set_cons_zero, List.set_cons_succ]
      refine wpAnyH_ready (rs := [12, 18, 19]) (by kernel_rfl) (by simp) ?_
      refine (AllReadyH.cons (oper_at (r := _) rfl) (fun K hK => ?_) (AllReadyH.cons (oper_at (r := _) rfl) (fun K hK => ?_) (AllReadyH.cons (oper_at (r := _) rfl) (fun K hK => ?_) AllReadyH.nil)))
      · skip
        go_simp
        refine (HMB2.out _ S_W1.out.1).mono ?_
        rintro e W2 ⟨⟨X2, x2, rfl, r1⟩, hb⟩
        have S_W2 := Lib.hid (S_W1.out.up hb)
        have WD_W2 := Lib.hid (WD_W1.out.trans (hb.mono WD_W1.out.size))
        have MA_W2 := Lib.hid (Reads.up MA_W1.out hb)
        clear S_W1 WD_W1 MA_W1
        have MB_W2 := Lib.hid r1
        clear hb r1
        go_wp2_with fail
        refine hK.out _ _ (HMM.out _ S_W2.out) (fun _ => ?_)
        clear hK K
        try simp only [Act.put, List.setIfInBounds_toArray, List.set_cons_zero, List.set_cons_succ]
        refine wpAnyH_ready (rs := [13, 18, 19]) (by kernel_rfl) (by simp) ?_
        refine (AllReadyH.cons (oper_at (r := _) rfl) (fun K hK => ?_) (AllReadyH.cons (oper_at (r := _) rfl) (fun K hK => ?_) (AllReadyH.cons (oper_at (r := _) rfl) (fun K hK => ?_) AllReadyH.nil)))
        · skip
          go_simp
          refine (HRM2.out X1 x1 X2 x2 _ S_W2.out.1 MA_W2.out MB_W2.out).mono ?_
          rintro e W3 ⟨⟨Gn, gn, Ge, ge, Kn, kn, Ke, ke, rfl, r1⟩, hb⟩
          have S_W3 := Lib.hid (S_W2.out.up hb)
          have WD_W3 := Lib.hid (WD_W2.out.trans (hb.mono WD_W2.out.size))
          have MA_W3 := Lib.hid (Reads.up MA_W2.out hb)
          have MB_W3 := Lib.hid (Reads.up MB_W2.out hb)
          clear S_W2 WD_W2 MA_W2 MB_W2
          have GR_W3 := Lib.hid r1
          clear hb r1
          go_wp2_with fail
          refine hK.out _ _ (HMM.out _ S_W3.out) (fun _ => ?_)
          clear hK K
          try simp only [Act.put, List.setIfInBounds_toArray, List.set_cons_zero, List.set_cons_succ]
          refine wpAnyH_take (i := 14) (v := ?_) (oper_at (r := _) rfl) (by kernel_rfl) (by kernel_rfl) (by kernel_rfl) (fun _ _ _ h => h) (Or.inl ⟨by rfl, ?_⟩) (by assumption) ?_
          rotate_left
          · intro w hSw; try dsimp only at hSw
            go_simp
            try with_reducible rfl
          try simp only [Act.put, List.setIfInBounds_toArray, List.set_cons_zero, List.set_cons_succ]
          refine wpAnyH_take (i := 15) (v := ?_) (oper_at (r := _) rfl) (by kernel_rfl) (by kernel_rfl) (by kernel_rfl) (fun _ _ _ h => h) (Or.inl ⟨by rfl, ?_⟩) (by assumption) ?_
          rotate_left
          · intro w hSw; try dsimp only at hSw
            go_simp
            try with_reducible rfl
          try simp only [Act.put, List.setIfInBounds_toArray, List.set_cons_zero, List.set_cons_succ]
          refine wpAnyH_take (i := 16) (v := ?_) (oper_at (r := _) rfl) (by kernel_rfl) (by kernel_rfl) (by kernel_rfl) (fun _ _ _ h => h) (Or.inl ⟨by rfl, ?_⟩) (by assumption) ?_
          rotate_left
          · intro w hSw; try dsimp only at hSw
            go_simp
            try with_reducible rfl
          try simp only [Act.put, List.setIfInBounds_toArray, List.set_cons_zero, List.set_cons_succ]
          refine wpAnyH_take (i := 17) (v := ?_) (oper_at (r := _) rfl) (by kernel_rfl) (by kernel_rfl) (by kernel_rfl) (fun _ _ _ h => h) (Or.inl ⟨by rfl, ?_⟩) (by assumption) ?_
          rotate_left
          · intro w hSw; try dsimp only at hSw
            go_simp
            try with_reducible rfl
          try simp only [Act.put, List.setIfInBounds_toArray, List.set_cons_zero, List.set_cons_succ]
          refine wpAnyH_ready (rs := [18, 19]) (by kernel_rfl) (by simp) ?_
          refine (AllReadyH.cons (oper_at (r := _) rfl) (fun K hK => ?_) (AllReadyH.cons (oper_at (r := _) rfl) (fun K hK => ?_) AllReadyH.nil))
          · skip
            obtain ⟨gx, hg⟩ : ∃ g, g = W3.heap.size := ⟨_, rfl⟩
            have lgx : wd.heap.size ≤ gx := by rw [hg]; exact WD_W3.out.size
            have hx : BX gx (.slice none 0 0) (.slice none 0 0) 25 (W3.alloc (.cells #[.slice none 0 0, .slice none 0 0] 25)) := by rw [hg]; exact heap_alloc_new _ _
            have hb : Below W3.heap.size W3 (W3.alloc (.cells #[.slice none 0 0, .slice none 0 0] 25)) := (Below.refl _ _).alloc (Nat.le_refl _) _
            have S_W4 := Lib.hid (S_W3.out.up hb)
            have WD_W4 := Lib.hid (WD_W3.out.trans (hb.mono WD_W3.out.size))
            have GR_W4 := Lib.hid (GR_W3.out.up hb)
            clear S_W3 WD_W3 GR_W3
            have BG_W4 := Lib.hid hx
            clear hx hb
            go_simp
            refine hK.out _ _ (HMM.out _ S_W4.out) (fun _ => ?_)
            clear hK K
            try simp only [Act.put, List.setIfInBounds_toArray, List.set_cons_zero, List.set_cons_succ]
            generalize W3.alloc (.cells #[.slice none 0 0, .slice none 0 0] 25) = W4 at *
            try rw [← hg]
            clear hg
            refine wpAnyH_ready (rs := [19]) (by kernel_rfl) (by simp) ?_
            refine AllReadyH.cons (oper_at (r := _) rfl) (fun K hK => ?_) AllReadyH.nil
            obtain ⟨gy, hg⟩ : ∃ g, g = W4.heap.size := ⟨_, rfl⟩
            have lgy : wd.heap.size ≤ gy := by rw [hg]; exact WD_W4.out.size
            have ngygx : gx ≠ gy := by have := BG_W4.out.lt; omega
            have ngxgy : gy ≠ gx := Ne.symm ngygx
            have hx : BX gy (.slice none 0 0) (.slice none 0 0) 30 (W4.alloc (.cells #[.slice none 0 0, .slice none 0 0] 30)) := by rw [hg]; exact heap_alloc_new _ _
            have hb : Below W4.heap.size W4 (W4.alloc (.cells #[.slice none 0 0, .slice none 0 0] 30)) := (Below.refl _ _).alloc (Nat.le_refl _) _
            have S_W5 := Lib.hid (S_W4.out.up hb)
            have WD_W5 := Lib.hid (WD_W4.out.trans (hb.mono WD_W4.out.size))
            have GR_W5 := Lib.hid (GR_W4.out.up hb)
            have BG_W5 := Lib.hid (BG_W4.out.up hb)
            clear S_W4 WD_W4 GR_W4 BG_W4
            have BM_W5 := Lib.hid hx
            clear hx hb
            go_simp
            refine hK.out _ _ (HMM.out _ S_W5.out) (fun _ => ?_)
            clear hK K
            try simp only [Act.put, List.setIfInBounds_toArray, List.set_cons_zero, List.set_cons_succ]
            generalize W4.alloc (.cells #[.slice none 0 0, .slice none 0 0] 30) = W5 at *
            try rw [← hg]
            clear hg
            refine wpAnyH_ready (rs := [20]) (by kernel_rfl) (by simp) ?_
            refine AllReadyH.cons (oper_at (r := _) rfl) (fun K hK => ?_) AllReadyH.nil
            have fr0 := BG_W5.out.free 0
            have fr1 := BG_W5.out.free 1
            obtain ⟨e0, e1⟩ := BG_W5.out.cells
            go_simp
            clear fr0 fr1 e0 e1
            have S_W6 := Lib.hid ((S_W5.out.far (p := ⟨gx, 0, none⟩) (by show w.heap.size + 4 ≤ gx; omega) (.slice Gn Q.ns.length gn)).far (p := ⟨gx, 1, none⟩) (by show w.heap.size + 4 ≤ gx; omega) (.slice Ge Q.es.length ge))
            have WD_W6 := Lib.hid ((WD_W5.out.setCell (p := ⟨gx, 0, none⟩) (by show wd.heap.size ≤ gx; omega) (.slice Gn Q.ns.length gn)).setCell (p := ⟨gx, 1, none⟩) (by show wd.heap.size ≤ gx; omega) (.slice Ge Q.es.length ge))
            have GR_W6 := Lib.hid (grAt_set GR_W5.out BG_W5.out (.slice Gn Q.ns.length gn) (.slice Ge Q.es.length ge))
            have BG_W6 := Lib.hid (BG_W5.out.put (.slice Gn Q.ns.length gn) (.slice Ge Q.es.length ge))
            have BM_W6 := Lib.hid (BM_W5.out.far ngxgy (.slice Gn Q.ns.length gn) (.slice Ge Q.es.length ge))
            clear S_W5 WD_W5 GR_W5 BG_W5 BM_W5
            refine hK.out _ _ (HMM.out _ S_W6.out) (fun _ => ?_)
            clear hK K
            try simp only [Act.put, List.setIfInBounds_toArray, List.set_cons_zero, List.set_cons_succ]
            generalize (W5.setCell ⟨gx, 0, none⟩ (.slice Gn Q.ns.length gn)).setCell ⟨gx, 1, none⟩ (.slice Ge Q.es.length ge) = W6 at *
            refine wpAnyH_ready (rs := [21]) (by kernel_rfl) (by simp) ?_
            refine AllReadyH.cons (oper_at (r := _) rfl) (fun K hK => ?_) AllReadyH.nil
            have fr0 := BM_W6.out.free 0
            have fr1 := BM_W6.out.free 1
            obtain ⟨e0, e1⟩ := BM_W6.out.cells
            go_simp
            clear fr0 fr1 e0 e1
            have S_W7 := Lib.hid ((S_W6.out.far (p := ⟨gy, 0, none⟩) (by show w.heap.size + 4 ≤ gy; omega) (.slice Kn kn.1 kn.2)).far (p := ⟨gy, 1, none⟩) (by show w.heap.size + 4 ≤ gy; omega) (.slice Ke ke.1 ke.2))
            have WD_W7 := Lib.hid ((WD_W6.out.setCell (p := ⟨gy, 0, none⟩) (by show wd.heap.size ≤ gy; omega) (.slice Kn kn.1 kn.2)).setCell (p := ⟨gy, 1, none⟩) (by show wd.heap.size ≤ gy; omega) (.slice Ke ke.1 ke.2))
            have GR_W7 := Lib.hid (grAt_set GR_W6.out BM_W6.out (.slice Kn kn.1 kn.2) (.slice Ke ke.1 ke.2))
            have BG_W7 := Lib.hid (BG_W6.out.far ngygx (.slice Kn kn.1 kn.2) (.slice Ke ke.1 ke.2))
            have BM_W7 := Lib.hid (BM_W6.out.put (.slice Kn kn.1 kn.2) (.slice Ke ke.1 ke.2))
            clear S_W6 WD_W6 GR_W6 BG_W6 BM_W6
            refine hK.out _ _ (HMM.out _ S_W7.out) (fun _ => ?_)
            clear hK K
            try simp only [Act.put, List.setIfInBounds_toArray, List.set_cons_zero, List.set_cons_succ]
            generalize (W6.setCell ⟨gy, 0, none⟩ (.slice Kn kn.1 kn.2)).setCell ⟨gy, 1, none⟩ (.slice Ke ke.1 ke.2) = W7 at *
            refine wpAnyH_take (i := 22) (v := ?_) (oper_at (r := _) rfl) (by kernel_rfl) (by kernel_rfl) (by kernel_rfl) (fun _ _ _ h => h) (Or.inl ⟨by rfl, ?_⟩) (by assumption) ?_
            rotate_left
            · intro w hSw; try dsimp only at hSw
              go_simp
              try with_reducible rfl
            try simp only [Act.put, List.setIfInBounds_toArray, List.set_cons_zero, List.set_cons_succ]
            refine wpAnyH_done (by kernel_rfl) ?_ _
            refine NoPanic.normal ?_
            go_wp2_with fail
            go_meet
            exact ⟨gx, Gn, gn, Ge, ge, rfl, Nat.le_trans lsr lgx, BG_W7.out, GR_W7.out, S_W7.out⟩
          · skip
            obtain ⟨gy, hg⟩ : ∃ g, g = W3.heap.size := ⟨_, rfl⟩
            have lgy : wd.heap.size ≤ gy := by rw [hg]; exact WD_W3.out.size
            have hx : BX gy (.slice none 0 0) (.slice none 0 0) 30 (W3.alloc (.cells #[.slice none 0 0, .slice none 0 0] 30)) := by rw [hg]; exact heap_alloc_new _ _
            have hb : Below W3.heap.size W3 (W3.alloc (.cells #[.slice none 0 0, .slice none 0 0] 30)) := (Below.refl _ _).alloc (Nat.le_refl _) _
            have S_W8 := Lib.hid (S_W3.out.up hb)
            have WD_W8 := Lib.hid (WD_W3.out.trans (hb.mono WD_W3.out.size))
            have GR_W8 := Lib.hid (GR_W3.out.up hb)
            clear S_W3 WD_W3 GR_W3
            have BM_W8 := Lib.hid hx
            clear hx hb
            go_simp
            refine hK.out _ _ (HMM.out _ S_W8.out) (fun _ => ?_)
            clear hK K
            try simp only [Act.put, List.setIfInBounds_toArray, List.set_cons_zero, List.set_cons_succ]
            generalize W3.alloc (.cells #[.slice none 0 0, .slice none 0 0] 30) = W8 at *
            try rw [← hg]
            clear hg
            refine wpAnyH_ready (rs := [18]) (by kernel_rfl) (by simp) ?_
            refine AllReadyH.cons (oper_at (r := _) rfl) (fun K hK => ?_) AllReadyH.nil
            obtain ⟨gx, hg⟩ : ∃ g, g = W8.heap.size := ⟨_, rfl⟩
            have lgx : wd.heap.size ≤ gx := by rw [hg]; exact WD_W8.out.size
            have ngxgy : gy ≠ gx := by have := BM_W8.out.lt; omega
            have ngygx : gx ≠ gy := Ne.symm ngxgy
            have hx : BX gx (.slice none 0 0) (.slice none 0 0) 25 (W8.alloc (.cells #[.slice none 0 0, .slice none 0 0] 25)) := by rw [hg]; exact heap_alloc_new _ _
            have hb : Below W8.heap.size W8 (W8.alloc (.cells #[.slice none 0 0, .slice none 0 0] 25)) := (Below.refl _ _).alloc (Nat.le_refl _) _
            have S_W9 := Lib.hid (S_W8.out.up hb)
            have WD_W9 := Lib.hid (WD_W8.out.trans (hb.mono WD_W8.out.size))
            have GR_W9 := Lib.hid (GR_W8.out.up hb)
            have BM_W9 := Lib.hid (BM_W8.out.up hb)
            clear S_W8 WD_W8 GR_W8 BM_W8
            have BG_W9 := Lib.hid hx
            clear hx hb
            go_simp
            refine hK.out _ _ (HMM.out _ S_W9.out) (fun _ => ?_)
            clear hK K
            try simp only [Act.put, List.setIfInBounds_toArray, List.set_cons_zero, List.set_cons_succ]
            generalize W8.alloc (.cells #[.slice none 0 0, .slice none 0 0] 25) = W9 at *
            try rw [← hg]
            clear hg
            refine wpAnyH_ready (rs := [20]) (by kernel_rfl) (by simp) ?_
            refine AllReadyH.cons (oper_at (r := _) rfl) (fun K hK => ?_) AllReadyH.nil
            have fr0 := BG_W9.out.free 0
            have fr1 := BG_W9.out.free 1
            obtain ⟨e0, e1⟩ := BG_W9.out.cells
            go_simp
            clear fr0 fr1 e0 e1
            have S_W10 := Lib.hid ((S_W9.out.far (p := ⟨gx, 0, none⟩) (by show w.heap.size + 4 ≤ gx; omega) (.slice Gn Q.ns.length gn)).far (p := ⟨gx, 1, none⟩) (by show w.heap.size + 4 ≤ gx; omega) (.slice Ge Q.es.length ge))
            have WD_W10 := Lib.hid ((WD_W9.out.setCell (p := ⟨gx, 0, none⟩) (by show wd.heap.size ≤ gx; omega) (.slice Gn Q.ns.length gn)).setCell (p := ⟨gx, 1, none⟩) (by show wd.heap.size ≤ gx; omega) (.slice Ge Q.es.length ge))
            have GR_W10 := Lib.hid (grAt_set GR_W9.out BG_W9.out (.slice Gn Q.ns.length gn) (.slice Ge Q.es.length ge))
            have BM_W10 := Lib.hid (BM_W9.out.far ngxgy (.slice Gn Q.ns.length gn) (.slice Ge Q.es.length ge))
            have BG_W10 := Lib.hid (BG_W9.out.put (.slice Gn Q.ns.length gn) (.slice Ge Q.es.length ge))
            clear S_W9 WD_W9 GR_W9 BM_W9 BG_W9
            refine hK.out _ _ (HMM.out _ S_W10.out) (fun _ => ?_)
            clear hK K
            try simp only [Act.put, List.setIfInBounds_toArray, List.set_cons_zero, List.set_cons_succ]
            generalize (W9.setCell ⟨gx, 0, none⟩ (.slice Gn Q.ns.length gn)).setCell ⟨gx, 1, none⟩ (.slice Ge Q.es.length ge) = W10 at *
            refine wpAnyH_ready (rs := [21]) (by kernel_rfl) (by simp) ?_
            refine AllReadyH.cons (oper_at (r := _) rfl) (fun K hK => ?_) AllReadyH.nil
            have fr0 := BM_W10.out.free 0
            have fr1 := BM_W10.out.free 1
            obtain ⟨e0, e1⟩ := BM_W10.out.cells
            go_simp
            clear fr0 fr1 e0 e1
            have S_W11 := Lib.hid ((S_W10.out.far (p := ⟨gy, 0, none⟩) (by show w.heap.size + 4 ≤ gy; omega) (.slice Kn kn.1 kn.2)).far (p := ⟨gy, 1, none⟩) (by show w.heap.size + 4 ≤ gy; omega) (.slice Ke ke.1 ke.2))
            have WD_W11 := Lib.hid ((WD_W10.out.setCell (p := ⟨gy, 0, none⟩) (by show wd.heap.size ≤ gy; omega) (.slice Kn kn.1 kn.2)).setCell (p := ⟨gy, 1, none⟩) (by show wd.heap.size ≤ gy; omega) (.slice Ke ke.1 ke.2))
            have GR_W11 := Lib.hid (grAt_set GR_W10.out BM_W10.out (.slice Kn kn.1 kn.2) (.slice Ke ke.1 ke.2))
            have BM_W11 := Lib.hid (BM_W10.out.put (.slice Kn kn.1 kn.2) (.slice Ke ke.1 ke.2))
            have BG_W11 := Lib.hid (BG_W10.out.far ngygx (.slice Kn kn.1 kn.2) (.slice Ke ke.1 ke.2))
            clear S_W10 WD_W10 GR_W10 BM_W10 BG_W10
            refine hK.out _ _ (HMM.out _ S_W11.out) (fun _ => ?_)
            clear hK K
            try simp only [Act.put, List.setIfInBounds_toArray, List.set_cons_zero, List.set_cons_succ]
            generalize (W10.setCell ⟨gy, 0, none⟩ (.slice Kn kn.1 kn.2)).setCell ⟨gy, 1, none⟩ (.slice Ke ke.1 ke.2) = W11 at *
            refine wpAnyH_take (i := 22) (v := ?_) (oper_at (r := _) rfl) (by kernel_rfl) (by kernel_rfl) (by kernel_rfl) (fun _ _ _ h => h) (Or.inl ⟨by rfl, ?_⟩) (by assumption) ?_
            rotate_left
            · intro w hSw; try dsimp only at hSw
              go_simp
              try with_reducible rfl
            try simp only [Act.put, List.setIfInBounds_toArray, List.set_cons_zero, List.set_cons_succ]
            refine wpAnyH_done (by kernel_rfl) ?_ _
            refine NoPanic.normal ?_
            go_wp2_with fail
            go_meet
            exact ⟨gx, Gn, gn, Ge, ge, rfl, Nat.le_trans lsr lgx, BG_W11.out, GR_W11.out, S_W11.out⟩
        · skip
          obtain ⟨gx, hg⟩ : ∃ g, g = W2.heap.size := ⟨_, rfl⟩
          have lgx : wd.heap.size ≤ gx := by rw [hg]; exact WD_W2.out.size
          have hx : BX gx (.slice none 0 0) (.slice none 0 0) 25 (W2.alloc (.cells #[.slice none 0 0, .slice none 0 0] 25)) := by rw [hg]; exact heap_alloc_new _ _
          have hb : Below W2.heap.size W2 (W2.alloc (.cells #[.slice none 0 0, .slice none 0 0] 25)) := (Below.refl _ _).alloc (Nat.le_refl _) _
          have S_W12 := Lib.hid (S_W2.out.up hb)
          have WD_W12 := Lib.hid (WD_W2.out.trans (hb.mono WD_W2.out.size))
          have MA_W12 := Lib.hid (Reads.up MA_W2.out hb)
          have MB_W12 := Lib.hid (Reads.up MB_W2.out hb)
          clear S_W2 WD_W2 MA_W2 MB_W2
          have BG_W12 := Lib.hid hx
          clear hx hb
          go_simp
          refine hK.out _ _ (HMM.out _ S_W12.out) (fun _ => ?_)
          clear hK K
          try simp only [Act.put, List.setIfInBounds_toArray, List.set_cons_zero, List.set_cons_succ]
          generalize W2.alloc (.cells #[.slice none 0 0, .slice none 0 0] 25) = W12 at *
          try rw [← hg]
          clear hg
          refine wpAnyH_ready (rs := [13, 19]) (by kernel_rfl) (by simp) ?_
          refine (AllReadyH.cons (oper_at (r := _) rfl) (fun K hK => ?_) (AllReadyH.cons (oper_at (r := _) rfl) (fun K hK => ?_) AllReadyH.nil))
          · skip
            go_simp
            refine (HRM2.out X1 x1 X2 x2 _ S_W12.out.1 MA_W12.out MB_W12.out).mono ?_
            rintro e W13 ⟨⟨Gn, gn, Ge, ge, Kn, kn, Ke, ke, rfl, r1⟩, hb⟩
            have S_W13 := Lib.hid (S_W12.out.up hb)
            have WD_W13 := Lib.hid (WD_W12.out.trans (hb.mono WD_W12.out.size))
            have MA_W13 := Lib.hid (Reads.up MA_W12.out hb)
            have MB_W13 := Lib.hid (Reads.up MB_W12.out hb)
            have BG_W13 := Lib.hid (BG_W12.out.up hb)
            clear S_W12 WD_W12 MA_W12 MB_W12 BG_W12
            have GR_W13 := Lib.hid r1
            clear hb r1
            go_wp2_with fail
            refine hK.out _ _ (HMM.out _ S_W13.out) (fun _ => ?_)
            clear hK K
            try simp only [Act.put, List.setIfInBounds_toArray, List.set_cons_zero, List.set_cons_succ]
            refine wpAnyH_take (i := 14) (v := ?_) (oper_at (r := _) rfl) (by kernel_rfl) (by kernel_rfl) (by kernel_rfl) (fun _ _ _ h => h) (Or.inl ⟨by rfl, ?_⟩) (by assumption) ?_
            rotate_left
            · intro w hSw; try dsimp only at hSw
              go_simp
              try with_reducible rfl
            try simp only [Act.put, List.setIfInBounds_toArray, List.set_cons_zero, List.set_cons_succ]
            refine wpAnyH_take (i := 15) (v := ?_) (oper_at (r := _) rfl) (by kernel_rfl) (by kernel_rfl) (by kernel_rfl) (fun _ _ _ h => h) (Or.inl ⟨by rfl, ?_⟩) (by assumption) ?_
            rotate_left
            · intro w hSw; try dsimp only at hSw
              go_simp
              try with_reducible rfl
            try simp only [Act.put, List.setIfInBounds_toArray, List.set_cons_zero, List.set_cons_succ]
            refine wpAnyH_take (i := 16) (v := ?_) (oper_at (r := _) rfl) (by kernel_rfl) (by kernel_rfl) (by kernel_rfl) (fun _ _ _ h => h) (Or.inl ⟨by rfl, ?_⟩) (by assumption) ?_
            rotate_left
            · intro w hSw; try dsimp only at hSw
              go_simp
              try with_reducible rfl
            try simp only [Act.put, List.setIfInBounds_toArray, List.set_cons_zero, List.set_cons_succ]
            refine wpAnyH_take (i := 17) (v := ?_) (oper_at (r := _) rfl) (by kernel_rfl) (by kernel_rfl) (by kernel_rfl) (fun _ _ _ h => h) (Or.inl ⟨by rfl, ?_⟩) (by assumption) ?_
            rotate_left
            · intro w hSw; try dsimp only at hSw
              go_simp
              try with_reducible rfl
            try simp only [Act.put, List.setIfInBounds_toArray, List.set_cons_zero, List.set_cons_succ]
            refine wpAnyH_ready (rs := [19]) (by kernel_rfl) (by simp) ?_
            refine AllReadyH.cons (oper_at (r := _) rfl) (fun K hK => ?_) AllReadyH.nil
            obtain ⟨gy, hg⟩ : ∃ g, g = W13.heap.size := ⟨_, rfl⟩
            have lgy : wd.heap.size ≤ gy := by rw [hg]; exact WD_W13.out.size
            have ngygx : gx ≠ gy := by have := BG_W13.out.lt; omega
            have ngxgy : gy ≠ gx := Ne.symm ngygx
            have hx : BX gy (.slice none 0 0) (.slice none 0 0) 30 (W13.alloc (.cells #[.slice none 0 0, .slice none 0 0] 30)) := by rw [hg]; exact heap_alloc_new _ _
            have hb : Below W13.heap.size W13 (W13.alloc (.cells #[.slice none 0 0, .slice none 0 0] 30)) := (Below.refl _ _).alloc (Nat.le_refl _) _
            have S_W14 := Lib.hid (S_W13.out.up hb)
            have WD_W14 := Lib.hid (WD_W13.out.trans (hb.mono WD_W13.out.size))
            have BG_W14 := Lib.hid (BG_W13.out.up hb)
            have GR_W14 := Lib.hid (GR_W13.out.up hb)
            clear S_W13 WD_W13 BG_W13 GR_W13
            have BM_W14 := Lib.hid hx
            clear hx hb
            go_simp
            refine hK.out _ _ (HMM.out _ S_W14.out) (fun _ => ?_)
            clear hK K
            try simp only [Act.put, List.setIfInBounds_toArray, List.set_cons_zero, List.set_cons_succ]
            generalize W13.alloc (.cells #[.slice none 0 0, .slice none 0 0] 30) = W14 at *
            try rw [← hg]
            clear hg
            refine wpAnyH_ready (rs := [20]) (by kernel_rfl) (by simp) ?_
            refine AllReadyH.cons (oper_at (r := _) rfl) (fun K hK => ?_) AllReadyH.nil
            have fr0 := BG_W14.out.free 0
            have fr1 := BG_W14.out.free 1
            obtain ⟨e0, e1⟩ := BG_W14.out.cells
            go_simp
            clear fr0 fr1 e0 e1
            have S_W15 := Lib.hid ((S_W14.out.far (p := ⟨gx, 0, none⟩) (by show w.heap.size + 4 ≤ gx; omega) (.slice Gn Q.ns.length gn)).far (p := ⟨gx, 1, none⟩) (by show w.heap.size + 4 ≤ gx; omega) (.slice Ge Q.es.length ge))
            have WD_W15 := Lib.hid ((WD_W14.out.setCell (p := ⟨gx, 0, none⟩) (by show wd.heap.size ≤ gx; omega) (.slice Gn Q.ns.length gn)).setCell (p := ⟨gx, 1, none⟩) (by show wd.heap.size ≤ gx; omega) (.slice Ge Q.es.length ge))
            have BG_W15 := Lib.hid (BG_W14.out.put (.slice Gn Q.ns.length gn) (.slice Ge Q.es.length ge))
            have GR_W15 := Lib.hid (grAt_set GR_W14.out BG_W14.out (.slice Gn Q.ns.length gn) (.slice Ge Q.es.length ge))
            have BM_W15 := Lib.hid (BM_W14.out.far ngxgy (.slice Gn Q.ns.length gn) (.slice Ge Q.es.length ge))
            clear S_W14 WD_W14 BG_W14 GR_W14 BM_W14
            refine hK.out _ _ (HMM.out _ S_W15.out) (fun _ => ?_)
            clear hK K
            try simp only [Act.put, List.setIfInBounds_toArray, List.set_cons_zero, List.set_cons_succ]
            generalize (W14.setCell ⟨gx, 0, none⟩ (.slice Gn Q.ns.length gn)).setCell ⟨gx, 1, none⟩ (.slice Ge Q.es.length ge) = W15 at *
            refine wpAnyH_ready (rs := [21]) (by kernel_rfl) (by simp) ?_
            refine AllReadyH.cons (oper_at (r := _) rfl) (fun K hK => ?_) AllReadyH.nil
            have fr0 := BM_W15.out.free 0
            have fr1 := BM_W15.out.free 1
            obtain ⟨e0, e1⟩ := BM_W15.out.cells
            go_simp
            clear fr0 fr1 e0 e1
            have S_W16 := Lib.hid ((S_W15.out.far (p := ⟨gy, 0, none⟩) (by show w.heap.size + 4 ≤ gy; omega) (.slice Kn kn.1 kn.2)).far (p := ⟨gy, 1, none⟩) (by show w.heap.size + 4 ≤ gy; omega) (.slice Ke ke.1 ke.2))
            have WD_W16 := Lib.hid ((WD_W15.out.setCell (p := ⟨gy, 0, none⟩) (by show wd.heap.size ≤ gy; omega) (.slice Kn kn.1 kn.2)).setCell (p := ⟨gy, 1, none⟩) (by show wd.heap.size ≤ gy; omega) (.slice Ke ke.1 ke.2))
            have BG_W16 := Lib.hid (BG_W15.out.far ngygx (.slice Kn kn.1 kn.2) (.slice Ke ke.1 ke.2))
            have GR_W16 := Lib.hid (grAt_set GR_W15.out BM_W15.out (.slice Kn kn.1 kn.2) (.slice Ke ke.1 ke.2))
            have BM_W16 := Lib.hid (BM_W15.out.put (.slice Kn kn.1 kn.2) (.slice Ke ke.1 ke.2))
            clear S_W15 WD_W15 BG_W15 GR_W15 BM_W15
            refine hK.out _ _ (HMM.out _ S_W16.out) (fun _ => ?_)
            clear hK K
            try simp only [Act.put, List.setIfInBounds_toArray, List.set_cons_zero, List.set_cons_succ]
            generalize (W15.setCell ⟨gy, 0, none⟩ (.slice Kn kn.1 kn.2)).setCell ⟨gy, 1, none⟩ (.slice Ke ke.1 ke.2) = W16 at *
            refine wpAnyH_take (i := 22) (v := ?_) (oper_at (r := _) rfl) (by kernel_rfl) (by kernel_rfl) (by kernel_rfl) (fun _ _ _ h => h) (Or.inl ⟨by rfl, ?_⟩) (by assumption) ?_
            rotate_left
            · intro w hSw; try dsimp only at hSw
              go_simp
              try with_reducible rfl
            try simp only [Act.put, List.setIfInBounds_toArray, List.set_cons_zero, List.set_cons_succ]
            refine wpAnyH_done (by kernel_rfl) ?_ _
            refine NoPanic.normal ?_
            go_wp2_with fail
            go_meet
            exact ⟨gx, Gn, gn, Ge, ge, rfl, Nat.le_trans lsr lgx, BG_W16.out, GR_W16.out, S_W16.out⟩
          · skip
            obtain ⟨gy, hg⟩ : ∃ g, g = W12.heap.size := ⟨_, rfl⟩
            have lgy : wd.heap.size ≤ gy := by rw [hg]; exact WD_W12.out.size
            have ngygx : gx ≠ gy := by have := BG_W12.out.lt; omega
            have ngxgy : gy ≠ gx := Ne.symm ngygx
            have hx : BX gy (.slice none 0 0) (.slice none 0 0) 30 (W12.alloc (.cells #[.slice none 0 0, .slice none 0 0] 30)) := by rw [hg]; exact heap_alloc_new _ _
            have hb : Below W12.heap.size W12 (W12.alloc (.cells #[.slice none 0 0, .slice none 0 0] 30)) := (Below.refl _ _).alloc (Nat.le_refl _) _
            have S_W17 := Lib.hid (S_W12.out.up hb)
            have WD_W17 := Lib.hid (WD_W12.out.trans (hb.mono WD_W12.out.size))
            have MA_W17 := Lib.hid (Reads.up MA_W12.out hb)
            have MB_W17 := Lib.hid (Reads.up MB_W12.out hb)
            have BG_W17 := Lib.hid (BG_W12.out.up hb)
            clear S_W12 WD_W12 MA_W12 MB_W12 BG_W12
            have BM_W17 := Lib.hid hx
            clear hx hb
            go_simp
            refine hK.out _ _ (HMM.out _ S_W17.out) (fun _ => ?_)
            clear hK K
            try simp only [Act.put, List.setIfInBounds_toArray, List.set_cons_zero, List.set_cons_succ]
            generalize W12.alloc (.cells #[.slice none 0 0, .slice none 0 0] 30) = W17 at *
            try rw [← hg]
            clear hg
            refine wpAnyH_ready (rs := [13]) (by kernel_rfl) (by simp) ?_
            refine AllReadyH.cons (oper_at (r := _) rfl) (fun K hK => ?_) AllReadyH.nil
            go_simp
            refine (HRM2.out X1 x1 X2 x2 _ S_W17.out.1 MA_W17.out MB_W17.out).mono ?_
            rintro e W18 ⟨⟨Gn, gn, Ge, ge, Kn, kn, Ke, ke, rfl, r1⟩, hb⟩
            have S_W18 := Lib.hid (S_W17.out.up hb)
            have WD_W18 := Lib.hid (WD_W17.out.trans (hb.mono WD_W17.out.size))
            have MA_W18 := Lib.hid (Reads.up MA_W17.out hb)
            have MB_W18 := Lib.hid (Reads.up MB_W17.out hb)
            have BG_W18 := Lib.hid (BG_W17.out.up hb)
            have BM_W18 := Lib.hid (BM_W17.out.up hb)
            clear S_W17 WD_W17 MA_W17 MB_W17 BG_W17 BM_W17
            have GR_W18 := Lib.hid r1
            clear hb r1
            go_wp2_with fail
            refine hK.out _ _ (HMM.out _ S_W18.out) (fun _ => ?_)
            clear hK K
            try simp only [Act.put, List.setIfInBounds_toArray, List.set_cons_zero, List.set_cons_succ]
            refine wpAnyH_take (i := 14) (v := ?_) (oper_at (r := _) rfl) (by kernel_rfl) (by kernel_rfl) (by kernel_rfl) (fun _ _ _ h => h) (Or.inl ⟨by rfl, ?_⟩) (by assumption) ?_
            rotate_left
            · intro w hSw; try dsimp only at hSw
              go_simp
              try with_reducible rfl
            try simp only [Act.put, List.setIfInBounds_toArray, List.set_cons_zero, List.set_cons_succ]
            refine wpAnyH_take (i := 15) (v := ?_) (oper_at (r := _) rfl) (by kernel_rfl) (by kernel_rfl) (by kernel_rfl) (fun _ _ _ h => h) (Or.inl ⟨by rfl, ?_⟩) (by assumption) ?_
            rotate_left
            · intro w hSw; try dsimp only at hSw
              go_simp
              try with_reducible rfl
            try simp only [Act.put, List.setIfInBounds_toArray, List.set_cons_zero, List.set_cons_succ]
            refine wpAnyH_take (i := 16) (v := ?_) (oper_at (r := _) rfl) (by kernel_rfl) (by kernel_rfl) (by kernel_rfl) (fun _ _ _ h => h) (Or.inl ⟨by rfl, ?_⟩) (by assumption) ?_
            rotate_left
            · intro w hSw; try dsimp only at hSw
              go_simp
              try with_reducible rfl
            try simp only [Act.put, List.setIfInBounds_toArray, List.set_cons_zero, List.set_cons_succ]
            refine wpAnyH_take (i := 17) (v := ?_) (oper_at (r := _) rfl) (by kernel_rfl) (by kernel_rfl) (by kernel_rfl) (fun _ _ _ h => h) (Or.inl ⟨by rfl, ?_⟩) (by assumption) ?_
            rotate_left
            · intro w hSw; try dsimp only at hSw
              go_simp
              try with_reducible rfl
            try simp only [Act.put, List.setIfInBounds_toArray, List.set_cons_zero, List.set_cons_succ]
            refine wpAnyH_ready (rs := [20]) (by kernel_rfl) (by simp) ?_
            refine AllReadyH.cons (oper_at (r := _) rfl) (fun K hK => ?_) AllReadyH.nil
            have fr0 := BG_W18.out.free 0
            have fr1 := BG_W18.out.free 1
            obtain ⟨e0, e1⟩ := BG_W18.out.cells
            go_simp
            clear fr0 fr1 e0 e1
            have S_W19 := Lib.hid ((S_W18.out.far (p := ⟨gx, 0, none⟩) (by show w.heap.size + 4 ≤ gx; omega) (.slice Gn Q.ns.length gn)).far (p := ⟨gx, 1, none⟩) (by show w.heap.size + 4 ≤ gx; omega) (.slice Ge Q.es.length ge))
            have WD_W19 := Lib.hid ((WD_W18.out.setCell (p := ⟨gx, 0, none⟩) (by show wd.heap.size ≤ gx; omega) (.slice Gn Q.ns.length gn)).setCell (p := ⟨gx, 1, none⟩) (by show wd.heap.size ≤ gx; omega) (.slice Ge Q.es.length ge))
            have BG_W19 := Lib.hid (BG_W18.out.put (.slice Gn Q.ns.length gn) (.slice Ge Q.es.length ge))
            have BM_W19 := Lib.hid (BM_W18.out.far ngxgy (.slice Gn Q.ns.length gn) (.slice Ge Q.es.length ge))
            have GR_W19 := Lib.hid (grAt_set GR_W18.out BG_W18.out (.slice Gn Q.ns.length gn) (.slice Ge Q.es.length ge))
            clear S_W18 WD_W18 BG_W18 BM_W18 GR_W18
            refine hK.out _ _ (HMM.out _ S_W19.out) (fun _ => ?_)
            clear hK K
            try simp only [Act.put, List.setIfInBounds_toArray, List.set_cons_zero, List.set_cons_succ]
            generalize (W18.setCell ⟨gx, 0, none⟩ (.slice Gn Q.ns.length gn)).setCell ⟨gx, 1, none⟩ (.slice Ge Q.es.length ge) = W19 at *
            refine wpAnyH_ready (rs := [21]) (by kernel_rfl) (by simp) ?_
            refine AllReadyH.cons (oper_at (r := _) rfl) (fun K hK => ?_) AllReadyH.nil
            have fr0 := BM_W19.out.free 0
            have fr1 := BM_W19.out.free 1
            obtain ⟨e0, e1⟩ := BM_W19.out.cells
            go_simp
            clear fr0 fr1 e0 e1
            have S_W20 := Lib.hid ((S_W19.out.far (p := ⟨gy, 0, none⟩) (by show w.heap.size + 4 ≤ gy; omega) (.slice Kn kn.1 kn.2)).far (p := ⟨gy, 1, none⟩) (by show w.heap.size + 4 ≤ gy; omega) (.slice Ke ke.1 ke.2))
            have WD_W20 := Lib.hid ((WD_W19.out.setCell (p := ⟨gy, 0, none⟩) (by show wd.heap.size ≤ gy; omega) (.slice Kn kn.1 kn.2)).setCell (p := ⟨gy, 1, none⟩) (by show wd.heap.size ≤ gy; omega) (.slice Ke ke.1 ke.2))
            have BG_W20 := Lib.hid (BG_W19.out.far ngygx (.slice Kn kn.1 kn.2) (.slice Ke ke.1 ke.2))
            have BM_W20 := Lib.hid (BM_W19.out.put (.slice Kn kn.1 kn.2) (.slice Ke ke.1 ke.2))
            have GR_W20 := Lib.hid (grAt_set GR_W19.out BM_W19.out (.slice Kn kn.1 kn.2) (.slice Ke ke.1 ke.2))
            clear S_W19 WD_W19 BG_W19 BM_W19 GR_W19
            refine hK.out _ _ (HMM.out _ S_W20.out) (fun _ => ?_)
            clear hK K
            try simp only [Act.put, List.setIfInBounds_toArray, List.set_cons_zero, List.set_cons_succ]
            generalize (W19.setCell ⟨gy, 0, none⟩ (.slice Kn kn.1 kn.2)).setCell ⟨gy, 1, none⟩ (.slice Ke ke.1 ke.2) = W20 at *
            refine wpAnyH_take (i := 22) (v := ?_) (oper_at (r := _) rfl) (by kernel_rfl) (by kernel_rfl) (by kernel_rfl) (fun _ _ _ h => h) (Or.inl ⟨by rfl, ?_⟩) (by assumption) ?_
            rotate_left
            · intro w hSw; try dsimp only at hSw
              go_simp
              try with_reducible rfl
            try simp only [Act.put, List.setIfInBounds_toArray, List.set_cons_zero, List.set_cons_succ]
            refine wpAnyH_done (by kernel_rfl) ?_ _
            refine NoPanic.normal ?_
            go_wp2_with fail
            go_meet
            exact ⟨gx, Gn, gn, Ge, ge, rfl, Nat.le_trans lsr lgx, BG_W20.out, GR_W20.out, S_W20.out⟩
        · skip
          obtain ⟨gy, hg⟩ : ∃ g, g = W2.heap.size := ⟨_, rfl⟩
          have lgy : wd.heap.size ≤ gy := by rw [hg]; exact WD_W2.out.size
          have hx : BX gy (.slice none 0 0) (.slice none 0 0) 30 (W2.alloc (.cells #[.slice none 0 0, .slice none 0 0] 30)) := by rw [hg]; exact heap_alloc_new _ _
          have hb : Below W2.heap.size W2 (W2.alloc (.cells #[.slice none 0 0, .slice none 0 0] 30)) := (Below.refl _ _).alloc (Nat.le_refl _) _
          have S_W21 := Lib.hid (S_W2.out.up hb)
          have WD_W21 := Lib.hid (WD_W2.out.trans (hb.mono WD_W2.out.size))
          have MA_W21 := Lib.hid (Reads.up MA_W2.out hb)
          have MB_W21 := Lib.hid (Reads.up MB_W2.out hb)
          clear S_W2 WD_W2 MA_W2 MB_W2
          have BM_W21 := Lib.hid hx
          clear hx hb
          go_simp
          refine hK.out _ _ (HMM.out _ S_W21.out) (fun _ => ?_)
          clear hK K
          try simp only [Act.put, List.setIfInBounds_toArray, List.set_cons_zero, List.set_cons_succ]
          generalize W2.alloc (.cells #[.slice none 0 0, .slice none 0 0] 30) = W21 at *
          try rw [← hg]
          clear hg
          refine wpAnyH_ready (rs := [13, 18]) (by kernel_rfl) (by simp) ?_
          refine (AllReadyH.cons (oper_at (r := _) rfl) (fun K hK => ?_) (AllReadyH.cons (oper_at (r := _) rfl) (fun K hK => ?_) AllReadyH.nil))
          · skip
            go_simp
            refine (HRM2.out X1 x1 X2 x2 _ S_W21.out.1 MA_W21.out MB_W21.out).mono ?_
            rintro e W22 ⟨⟨Gn, gn, Ge, ge, Kn, kn, Ke, ke, rfl, r1⟩, hb⟩
            have S_W22 := Lib.hid (S_W21.out.up hb)
            have WD_W22 := Lib.hid (WD_W21.out.trans (hb.mono WD_W21.out.size))
            have MA_W22 := Lib.hid (Reads.up MA_W21.out hb)
            have MB_W22 := Lib.hid (Reads.up MB_W21.out hb)
            have BM_W22 := Lib.hid (BM_W21.out.up hb)
            clear S_W21 WD_W21 MA_W21 MB_W21 BM_W21
            have GR_W22 := Lib.hid r1
            clear hb r1
            go_wp2_with fail
            refine hK.out _ _ (HMM.out _ S_W22.out) (fun _ => ?_)
            clear hK K
            try simp only [Act.put, List.setIfInBounds_toArray, List.set_cons_zero, List.set_cons_succ]
            refine wpAnyH_take (i := 14) (v := ?_) (oper_at (r := _) rfl) (by kernel_rfl) (by kernel_rfl) (by kernel_rfl) (fun _ _ _ h => h) (Or.inl ⟨by rfl, ?_⟩) (by assumption) ?_
            rotate_left
            · intro w hSw; try dsimp only at hSw
              go_simp
              try with_reducible rfl
            try simp only [Act.put, List.setIfInBounds_toArray, List.set_cons_zero, List.set_cons_succ]
            refine wpAnyH_take (i := 15) (v := ?_) (oper_at (r := _) rfl) (by kernel_rfl) (by kernel_rfl) (by kernel_rfl) (fun _ _ _ h => h) (Or.inl ⟨by rfl, ?_⟩) (by assumption) ?_
            rotate_left
            · intro w hSw; try dsimp only at hSw
              go_simp
              try with_reducible rfl
            try simp only [Act.put, List.setIfInBounds_toArray, List.set_cons_zero, List.set_cons_succ]
            refine wpAnyH_take (i := 16) (v := ?_) (oper_at (r := _) rfl) (by kernel_rfl) (by kernel_rfl) (by kernel_rfl) (fun _ _ _ h => h) (Or.inl ⟨by rfl, ?_⟩) (by assumption) ?_
            rotate_left
            · intro w hSw; try dsimp only at hSw
              go_simp
              try with_reducible rfl
            try simp only [Act.put, List.setIfInBounds_toArray, List.set_cons_zero, List.set_cons_succ]
            refine wpAnyH_take (i := 17) (v := ?_) (oper_at (r := _) rfl) (by kernel_rfl) (by kernel_rfl) (by kernel_rfl) (fun _ _ _ h => h) (Or.inl ⟨by rfl, ?_⟩) (by assumption) ?_
            rotate_left
            · intro w hSw; try dsimp only at hSw
              go_simp
              try with_reducible rfl
            try simp only [Act.put, List.setIfInBounds_toArray, List.set_cons_zero, List.set_cons_succ]
            refine wpAnyH_ready (rs := [18]) (by kernel_rfl) (by simp) ?_
            refine AllReadyH.cons (oper_at (r := _) rfl) (fun K hK => ?_) AllReadyH.nil
            obtain ⟨gx, hg⟩ : ∃ g, g = W22.heap.size := ⟨_, rfl⟩
            have lgx : wd.heap.size ≤ gx := by rw [hg]; exact WD_W22.out.size
            have ngxgy : gy ≠ gx := by have := BM_W22.out.lt; omega
            have ngygx : gx ≠ gy := Ne.symm ngxgy
            have hx : BX gx (.slice none 0 0) (.slice none 0 0) 25 (W22.alloc (.cells #[.slice none 0 0, .slice none 0 0] 25)) := by rw [hg]; exact heap_alloc_new _ _
            have hb : Below W22.heap.size W22 (W22.alloc (.cells #[.slice none 0 0, .slice none 0 0] 25)) := (Below.refl _ _).alloc (Nat.le_refl _) _
            have S_W23 := Lib.hid (S_W22.out.up hb)
            have WD_W23 := Lib.hid (WD_W22.out.trans (hb.mono WD_W22.out.size))
            have BM_W23 := Lib.hid (BM_W22.out.up hb)
            have GR_W23 := Lib.hid (GR_W22.out.up hb)
            clear S_W22 WD_W22 BM_W22 GR_W22
            have BG_W23 := Lib.hid hx
            clear hx hb
            go_simp
            refine hK.out _ _ (HMM.out _ S_W23.out) (fun _ => ?_)
            clear hK K
            try simp only [Act.put, List.setIfInBounds_toArray, List.set_cons_zero, List.set_cons_succ]
            generalize W22.alloc (.cells #[.slice none 0 0, .slice none 0 0] 25) = W23 at *
            try rw [← hg]
            clear hg
            refine wpAnyH_ready (rs := [20]) (by kernel_rfl) (by simp) ?_
            refine AllReadyH.cons (oper_at (r := _) rfl) (fun K hK => ?_) AllReadyH.nil
            have fr0 := BG_W23.out.free 0
            have fr1 := BG_W23.out.free 1
            obtain ⟨e0, e1⟩ := BG_W23.out.cells
            go_simp
            clear fr0 fr1 e0 e1
            have S_W24 := Lib.hid ((S_W23.out.far (p := ⟨gx, 0, none⟩) (by show w.heap.size + 4 ≤ gx; omega) (.slice Gn Q.ns.length gn)).far (p := ⟨gx, 1, none⟩) (by show w.heap.size + 4 ≤ gx; omega) (.slice Ge Q.es.length ge))
            have WD_W24 := Lib.hid ((WD_W23.out.setCell (p := ⟨gx, 0, none⟩) (by show wd.heap.size ≤ gx; omega) (.slice Gn Q.ns.length gn)).setCell (p := ⟨gx, 1, none⟩) (by show wd.heap.size ≤ gx; omega) (.slice Ge Q.es.length ge))
            have BM_W24 := Lib.hid (BM_W23.out.far ngxgy (.slice Gn Q.ns.length gn) (.slice Ge Q.es.length ge))
            have GR_W24 := Lib.hid (grAt_set GR_W23.out BG_W23.out (.slice Gn Q.ns.length gn) (.slice Ge Q.es.length ge))
            have BG_W24 := Lib.hid (BG_W23.out.put (.slice Gn Q.ns.length gn) (.slice Ge Q.es.length ge))
            clear S_W23 WD_W23 BM_W23 GR_W23 BG_W23
            refine hK.out _ _ (HMM.out _ S_W24.out) (fun _ => ?_)
            clear hK K
            try simp only [Act.put, List.setIfInBounds_toArray, List.set_cons_zero, List.set_cons_succ]
            generalize (W23.setCell ⟨gx, 0, none⟩ (.slice Gn Q.ns.length gn)).setCell ⟨gx, 1, none⟩ (.slice Ge Q.es.length ge) = W24 at *
            refine wpAnyH_ready (rs := [21]) (by kernel_rfl) (by simp) ?_
            refine AllReadyH.cons (oper_at (r := _) rfl) (fun K hK => ?_) AllReadyH.nil
            have fr0 := BM_W24.out.free 0
            have fr1 := BM_W24.out.free 1
            obtain ⟨e0, e1⟩ := BM_W24.out.cells
            go_simp
            clear fr0 fr1 e0 e1
            have S_W25 := Lib.hid ((S_W24.out.far (p := ⟨gy, 0, none⟩) (by show w.heap.size + 4 ≤ gy; omega) (.slice Kn kn.1 kn.2)).far (p := ⟨gy, 1, none⟩) (by show w.heap.size + 4 ≤ gy; omega) (.slice Ke ke.1 ke.2))
            have WD_W25 := Lib.hid ((WD_W24.out.setCell (p := ⟨gy, 0, none⟩) (by show wd.heap.size ≤ gy; omega) (.slice Kn kn.1 kn.2)).setCell (p := ⟨gy, 1, none⟩) (by show wd.heap.size ≤ gy; omega) (.slice Ke ke.1 ke.2))
            have BM_W25 := Lib.hid (BM_W24.out.put (.slice Kn kn.1 kn.2) (.slice Ke ke.1 ke.2))
            have GR_W25 := Lib.hid (grAt_set GR_W24.out BM_W24.out (.slice Kn kn.1 kn.2) (.slice Ke ke.1 ke.2))
            have BG_W25 := Lib.hid (BG_W24.out.far ngygx (.slice Kn kn.1 kn.2) (.slice Ke ke.1 ke.2))
            clear S_W24 WD_W24 BM_W24 GR_W24 BG_W24
            refine hK.out _ _ (HMM.out _ S_W25.out) (fun _ => ?_)
            clear hK K
            try simp only [Act.put, List.setIfInBounds_toArray, List.set_cons_zero, List.set_cons_succ]
            generalize (W24.setCell ⟨gy, 0, none⟩ (.slice Kn kn.1 kn.2)).setCell ⟨gy, 1, none⟩ (.slice Ke ke.1 ke.2) = W25 at *
            refine wpAnyH_take (i := 22) (v := ?_) (oper_at (r := _) rfl) (by kernel_rfl) (by kernel_rfl) (by kernel_rfl) (fun _ _ _ h => h) (Or.inl ⟨by rfl, ?_⟩) (by assumption) ?_
            rotate_left
            · intro w hSw; try dsimp only at hSw
              go_simp
              try with_reducible rfl
            try simp only [Act.put, List.setIfInBounds_toArray, List.set_cons_zero, List.set_cons_succ]
            refine wpAnyH_done (by kernel_rfl) ?_ _
            refine NoPanic.normal ?_
            go_wp2_with fail
            go_meet
            exact ⟨gx, Gn, gn, Ge, ge, rfl, Nat.le_trans lsr lgx, BG_W25.out, GR_W25.out, S_W25.out⟩
          · skip
            obtain ⟨gx, hg⟩ : ∃ g, g = W21.heap.size := ⟨_, rfl⟩
            have lgx : wd.heap.size ≤ gx := by rw [hg]; exact WD_W21.out.size
            have ngxgy : gy ≠ gx := by have := BM_W21.out.lt; omega
            have ngygx : gx ≠ gy := Ne.symm ngxgy
            have hx : BX gx (.slice none 0 0) (.slice none 0 0) 25 (W21.alloc (.cells #[.slice none 0 0, .slice none 0 0] 25)) := by rw [hg]; exact heap_alloc_new _ _
            have hb : Below W21.heap.size W21 (W21.alloc (.cells #[.slice none 0 0, .slice none 0 0] 25)) := (Below.refl _ _).alloc (Nat.le_refl _) _
            have S_W26 := Lib.hid (S_W21.out.up hb)
            have WD_W26 := Lib.hid (WD_W21.out.trans (hb.mono WD_W21.out.size))
            have MA_W26 := Lib.hid (Reads.up MA_W21.out hb)
            have MB_W26 := Lib.hid (Reads.up MB_W21.out hb)
            have BM_W26 := Lib.hid (BM_W21.out.up hb)
            clear S_W21 WD_W21 MA_W21 MB_W21 BM_W21
            have BG_W26 := Lib.hid hx
            clear hx hb
            go_simp
            refine hK.out _ _ (HMM.out _ S_W26.out) (fun _ => ?_)
            clear hK K
            try simp only [Act.put, List.setIfInBounds_toArray, List.set_cons_zero, List.set_cons_succ]
            generalize W21.alloc (.cells #[.slice none 0 0, .slice none 0 0] 25) = W26 at *
            try rw [← hg]
            clear hg
            refine wpAnyH_ready (rs := [13]) (by kernel_rfl) (by simp) ?_
            refine AllReadyH.cons (oper_at (r := _) rfl) (fun K hK => ?_) AllReadyH.nil
            go_simp
            refine (HRM2.out X1 x1 X2 x2 _ S_W26.out.1 MA_W26.out MB_W26.out).mono ?_
            rintro e W27 ⟨⟨Gn, gn, Ge, ge, Kn, kn, Ke, ke, rfl, r1⟩, hb⟩
            have S_W27 := Lib.hid (S_W26.out.up hb)
            have WD_W27 := Lib.hid (WD_W26.out.trans (hb.mono WD_W26.out.size))
            have MA_W27 := Lib.hid (Reads.up MA_W26.out hb)
            have MB_W27 := Lib.hid (Reads.up MB_W26.out hb)
            have BM_W27 := Lib.hid (BM_W26.out.up hb)
            have BG_W27 := Lib.hid (BG_W26.out.up hb)
            clear S_W26 WD_W26 MA_W26 MB_W26 BM_W26 BG_W26
            have GR_W27 := Lib.hid r1
            clear hb r1
            go_wp2_with fail
            refine hK.out _ _ (HMM.out _ S_W27.out) (fun _ => ?_)
            clear hK K
            try simp only [Act.put, List.setIfInBounds_toArray, List.set_cons_zero, List.set_cons_succ]
            refine wpAnyH_take (i := 14) (v := ?_) (oper_at (r := _) rfl) (by kernel_rfl) (by kernel_rfl) (by kernel_rfl) (fun _ _ _ h => h) (Or.inl ⟨by rfl, ?_⟩) (by assumption) ?_
            rotate_left
            · intro w hSw; try dsimp only at hSw
              go_simp
              try with_reducible rfl
            try simp only [Act.put, List.setIfInBounds_toArray, List.set_cons_zero, List.set_cons_succ]
            refine wpAnyH_take (i := 15) (v := ?_) (oper_at (r := _) rfl) (by kernel_rfl) (by kernel_rfl) (by kernel_rfl) (fun _ _ _ h => h) (Or.inl ⟨by rfl, ?_⟩) (by assumption) ?_
            rotate_left
            · intro w hSw; try dsimp only at hSw
              go_simp
              try with_reducible rfl
            try simp only [Act.put, List.setIfInBounds_toArray, List.set_cons_zero, List.set_cons_succ]
            refine wpAnyH_take (i := 16) (v := ?_) (oper_at (r := _) rfl) (by kernel_rfl) (by kernel_rfl) (by kernel_rfl) (fun _ _ _ h => h) (Or.inl ⟨by rfl, ?_⟩) (by assumption) ?_
            rotate_left
            · intro w hSw; try dsimp only at hSw
              go_simp
              try with_reducible rfl
            try simp only [Act.put, List.setIfInBounds_toArray, List.set_cons_zero, List.set_cons_succ]
            refine wpAnyH_take (i := 17) (v := ?_) (oper_at (r := _) rfl) (by kernel_rfl) (by kernel_rfl) (by kernel_rfl) (fun _ _ _ h => h) (Or.inl ⟨by rfl, ?_⟩) (by assumption) ?_
            rotate_left
            · intro w hSw; try dsimp only at hSw
              go_simp
              try with_reducible rfl
            try simp only [Act.put, List.setIfInBounds_toArray, List.set_cons_zero, List.set_cons_succ]
            refine wpAnyH_ready (rs := [20]) (by kernel_rfl) (by simp) ?_
            refine AllReadyH.cons (oper_at (r := _) rfl) (fun K hK => ?_) AllReadyH.nil
            have fr0 := BG_W27.out.free 0
            have fr1 := BG_W27.out.free 1
            obtain ⟨e0, e1⟩ := BG_W27.out.cells
            go_simp
            clear fr0 fr1 e0 e1
            have S_W28 := Lib.hid ((S_W27.out.far (p := ⟨gx, 0, none⟩) (by show w.heap.size + 4 ≤ gx; omega) (.slice Gn Q.ns.length gn)).far (p := ⟨gx, 1, none⟩) (by show w.heap.size + 4 ≤ gx; omega) (.slice Ge Q.es.length ge))
            have WD_W28 := Lib.hid ((WD_W27.out.setCell (p := ⟨gx, 0, none⟩) (by show wd.heap.size ≤ gx; omega) (.slice Gn Q.ns.length gn)).setCell (p := ⟨gx, 1, none⟩) (by show wd.heap.size ≤ gx; omega) (.slice Ge Q.es.length ge))
            have BM_W28 := Lib.hid (BM_W27.out.far ngxgy (.slice Gn Q.ns.length gn) (.slice Ge Q.es.length ge))
            have BG_W28 := Lib.hid (BG_W27.out.put (.slice Gn Q.ns.length gn) (.slice Ge Q.es.length ge))
            have GR_W28 := Lib.hid (grAt_set GR_W27.out BG_W27.out (.slice Gn Q.ns.length gn) (.slice Ge Q.es.length ge))
            clear S_W27 WD_W27 BM_W27 BG_W27 GR_W27
            refine hK.out _ _ (HMM.out _ S_W28.out) (fun _ => ?_)
            clear hK K
            try simp only [Act.put, List.setIfInBounds_toArray, List.set_cons_zero, List.set_cons_succ]
            generalize (W27.setCell ⟨gx, 0, none⟩ (.slice Gn Q.ns.length gn)).setCell ⟨gx, 1, none⟩ (.slice Ge Q.es.length ge) = W28 at *
            refine wpAnyH_ready (rs := [21]) (by kernel_rfl) (by simp) ?_
            refine AllReadyH.cons (oper_at (r := _) rfl) (fun K hK => ?_) AllReadyH.nil
            have fr0 := BM_W28.out.free 0
            have fr1 := BM_W28.out.free 1
            obtain ⟨e0, e1⟩ := BM_W28.out.cells
            go_simp
            clear fr0 fr1 e0 e1
            have S_W29 := Lib.hid ((S_W28.out.far (p := ⟨gy, 0, none⟩) (by show w.heap.size + 4 ≤ gy; omega) (.slice Kn kn.1 kn.2)).far (p := ⟨gy, 1, none⟩) (by show w.heap.size + 4 ≤ gy; omega) (.slice Ke ke.1 ke.2))
            have WD_W29 := Lib.hid ((WD_W28.out.setCell (p := ⟨gy, 0, none⟩) (by show wd.heap.size ≤ gy; omega) (.slice Kn kn.1 kn.2)).setCell (p := ⟨gy, 1, none⟩) (by show wd.heap.size ≤ gy; omega) (.slice Ke ke.1 ke.2))
            have BM_W29 := Lib.hid (BM_W28.out.put (.slice Kn kn.1 kn.2) (.slice Ke ke.1 ke.2))
            have BG_W29 := Lib.hid (BG_W28.out.far ngygx (.slice Kn kn.1 kn.2) (.slice Ke ke.1 ke.2))
            have GR_W29 := Lib.hid (grAt_set GR_W28.out BM_W28.out (.slice Kn kn.1 kn.2) (.slice Ke ke.1 ke.2))
            clear S_W28 WD_W28 BM_W28 BG_W28 GR_W28
            refine hK.out _ _ (HMM.out _ S_W29.out) (fun _ => ?_)
            clear hK K
            try simp only [Act.put, List.setIfInBounds_toArray, List.set_cons_zero, List.set_cons_succ]
            generalize (W28.setCell ⟨gy, 0, none⟩ (.slice Kn kn.1 kn.2)).setCell ⟨gy, 1, none⟩ (.slice Ke ke.1 ke.2) = W29 at *
            refine wpAnyH_take (i := 22) (v := ?_) (oper_at (r := _) rfl) (by kernel_rfl) (by kernel_rfl) (by kernel_rfl) (fun _ _ _ h => h) (Or.inl ⟨by rfl, ?_⟩) (by assumption) ?_
            rotate_left
            · intro w hSw; try dsimp only at hSw
              go_simp
              try with_reducible rfl
            try simp only [Act.put, List.setIfInBounds_toArray, List.set_cons_zero, List.set_cons_succ]
            refine wpAnyH_done (by kernel_rfl) ?_ _
            refine NoPanic.normal ?_
            go_wp2_with fail
            go_meet
            exact ⟨gx, Gn, gn, Ge, ge, rfl, Nat.le_trans lsr lgx, BG_W29.out, GR_W29.out, S_W29.out⟩
      · skip
        obtain ⟨gx, hg⟩ : ∃ g, g = W1.heap.size := ⟨_, rfl⟩
        have lgx : wd.heap.size ≤ gx := by rw [hg]; exact WD_W1.out.size
        have hx : BX gx (.slice none 0 0) (.slice none 0 0) 25 (W1.alloc (.cells #[.slice none 0 0, .slice none 0 0] 25)) := by rw [hg]; exact heap_alloc_new _ _
        have hb : Below W1.heap.size W1 (W1.alloc (.cells #[.slice none 0 0, .slice none 0 0] 25)) := (Below.refl _ _).alloc (Nat.le_refl _) _
        have S_W30 := Lib.hid (S_W1.out.up hb)
        have WD_W30 := Lib.hid (WD_W1.out.trans (hb.mono WD_W1.out.size))
        have MA_W30 := Lib.hid (Reads.up MA_W1.out hb)
        clear S_W1 WD_W1 MA_W1
        have BG_W30 := Lib.hid hx
        clear hx hb
        go_simp
        refine hK.out _ _ (HMM.out _ S_W30.out) (fun _ => ?_)
        clear hK K
        try simp only [Act.put, List.setIfInBounds_toArray, List.set_cons_zero, List.set_cons_succ]
        generalize W1.alloc (.cells #[.slice none 0 0, .slice none 0 0] 25) = W30 at *
        try rw [← hg]
        clear hg
        refine wpAnyH_ready (rs := [12, 19]) (by kernel_rfl) (by simp) ?_
        refine (AllReadyH.cons (oper_at (r := _) rfl) (fun K hK => ?_) (AllReadyH.cons (oper_at (r := _) rfl) (fun K hK => ?_) AllReadyH.nil))
        · skip
          go_simp
          refine (HMB2.out _ S_W30.out.1).mono ?_
          rintro e W31 ⟨⟨X2, x2, rfl, r1⟩, hb⟩
          have S_W31 := Lib.hid (S_W30.out.up hb)
          have WD_W31 := Lib.hid (WD_W30.out.trans (hb.mono WD_W30.out.size))
          have MA_W31 := Lib.hid (Reads.up MA_W30.out hb)
          have BG_W31 := Lib.hid (BG_W30.out.up hb)
          clear S_W30 WD_W30 MA_W30 BG_W30
          have MB_W31 := Lib.hid r1
          clear hb r1
          go_wp2_with fail
          refine hK.out _ _ (HMM.out _ S_W31.out) (fun _ => ?_)
          clear hK K
          try simp only [Act.put, List.setIfInBounds_toArray, List.set_cons_zero, List.set_cons_succ]
          refine wpAnyH_ready (rs := [13, 19]) (by kernel_rfl) (by simp) ?_
          refine (AllReadyH.cons (oper_at (r := _) rfl) (fun K hK => ?_) (AllReadyH.cons (oper_at (r := _) rfl) (fun K hK => ?_) AllReadyH.nil))
          · skip
            go_simp
            refine (HRM2.out X1 x1 X2 x2 _ S_W31.out.1 MA_W31.out MB_W31.out).mono ?_
            rintro e W32 ⟨⟨Gn, gn, Ge, ge, Kn, kn, Ke, ke, rfl, r1⟩, hb⟩
            have S_W32 := Lib.hid (S_W31.out.up hb)
            have WD_W32 := Lib.hid (WD_W31.out.trans (hb.mono WD_W31.out.size))
            have MA_W32 := Lib.hid (Reads.up MA_W31.out hb)
            have BG_W32 := Lib.hid (BG_W31.out.up hb)
            have MB_W32 := Lib.hid (Reads.up MB_W31.out hb)
            clear S_W31 WD_W31 MA_W31 BG_W31 MB_W31
            have GR_W32 := Lib.hid r1
            clear hb r1
            go_wp2_with fail
            refine hK.out _ _ (HMM.out _ S_W32.out) (fun _ => ?_)
            clear hK K
            try simp only [Act.put, List.setIfInBounds_toArray, List.set_cons_zero, List.set_cons_succ]
            refine wpAnyH_take (i := 14) (v := ?_) (oper_at (r := _) rfl) (by kernel_rfl) (by kernel_rfl) (by kernel_rfl) (fun _ _ _ h => h) (Or.inl ⟨by rfl, ?_⟩) (by assumption) ?_
            rotate_left
            · intro w hSw; try dsimp only at hSw
              go_simp
              try with_reducible rfl
            try simp only [Act.put, List.setIfInBounds_toArray, List.set_cons_zero, List.set_cons_succ]
            refine wpAnyH_take (i := 15) (v := ?_) (oper_at (r := _) rfl) (by kernel_rfl) (by kernel_rfl) (by kernel_rfl) (fun _ _ _ h => h) (Or.inl ⟨by rfl, ?_⟩) (by assumption) ?_
            rotate_left
            · intro w hSw; try dsimp only at hSw
              go_simp
              try with_reducible rfl
            try simp only [Act.put, List.setIfInBounds_toArray, List.set_cons_zero, List.set_cons_succ]
            refine wpAnyH_take (i := 16) (v := ?_) (oper_at (r := _) rfl) (by kernel_rfl) (by kernel_rfl) (by kernel_rfl) (fun _ _ _ h => h) (Or.inl ⟨by rfl, ?_⟩) (by assumption) ?_
            rotate_left
            · intro w hSw; try dsimp only at hSw
              go_simp
              try with_reducible rfl
            try simp only [Act.put, List.setIfInBounds_toArray, List.set_cons_zero, List.set_cons_succ]
            refine wpAnyH_take (i := 17) (v := ?_) (oper_at (r := _) rfl) (by kernel_rfl) (by kernel_rfl) (by kernel_rfl) (fun _ _ _ h => h) (Or.inl ⟨by rfl, ?_⟩) (by assumption) ?_
            rotate_left
            · intro w hSw; try dsimp only at hSw
              go_simp
              try with_reducible rfl
            try simp only [Act.put, List.setIfInBounds_toArray, List.set_cons_zero, List.set_cons_succ]
            refine wpAnyH_ready (rs := [19]) (by kernel_rfl) (by simp) ?_
            refine AllReadyH.cons (oper_at (r := _) rfl) (fun K hK => ?_) AllReadyH.nil
            obtain ⟨gy, hg⟩ : ∃ g, g = W32.heap.size := ⟨_, rfl⟩
            have lgy : wd.heap.size ≤ gy := by rw [hg]; exact WD_W32.out.size
            have ngygx : gx ≠ gy := by have := BG_W32.out.lt; omega
            have ngxgy : gy ≠ gx := Ne.symm ngygx
            have hx : BX gy (.slice none 0 0) (.slice none 0 0) 30 (W32.alloc (.cells #[.slice none 0 0, .slice none 0 0] 30)) := by rw [hg]; exact heap_alloc_new _ _
            have hb : Below W32.heap.size W32 (W32.alloc (.cells #[.slice none 0 0, .slice none 0 0] 30)) := (Below.refl _ _).alloc (Nat.le_refl _) _
            have S_W33 := Lib.hid (S_W32.out.up hb)
            have WD_W33 := Lib.hid (WD_W32.out.trans (hb.mono WD_W32.out.size))
            have BG_W33 := Lib.hid (BG_W32.out.up hb)
            have GR_W33 := Lib.hid (GR_W32.out.up hb)
            clear S_W32 WD_W32 BG_W32 GR_W32
            have BM_W33 := Lib.hid hx
            clear hx hb
            go_simp
            refine hK.out _ _ (HMM.out _ S_W33.out) (fun _ => ?_)
            clear hK K
            try simp only [Act.put, List.setIfInBounds_toArray, List.set_cons_zero, List.set_cons_succ]
            generalize W32.alloc (.cells #[.slice none 0 0, .slice none 0 0] 30) = W33 at *
            try rw [← hg]
            clear hg
            refine wpAnyH_ready (rs := [20]) (by kernel_rfl) (by simp) ?_
            refine AllReadyH.cons (oper_at (r := _) rfl) (fun K hK => ?_) AllReadyH.nil
            have fr0 := BG_W33.out.free 0
            have fr1 := BG_W33.out.free 1
            obtain ⟨e0, e1⟩ := BG_W33.out.cells
            go_simp
            clear fr0 fr1 e0 e1
            have S_W34 := Lib.hid ((S_W33.out.far (p := ⟨gx, 0, none⟩) (by show w.heap.size + 4 ≤ gx; omega) (.slice Gn Q.ns.length gn)).far (p := ⟨gx, 1, none⟩) (by show w.heap.size + 4 ≤ gx; omega) (.slice Ge Q.es.length ge))
            have WD_W34 := Lib.hid ((WD_W33.out.setCell (p := ⟨gx, 0, none⟩) (by show wd.heap.size ≤ gx; omega) (.slice Gn Q.ns.length gn)).setCell (p := ⟨gx, 1, none⟩) (by show wd.heap.size ≤ gx; omega) (.slice Ge Q.es.length ge))
            have BG_W34 := Lib.hid (BG_W33.out.put (.slice Gn Q.ns.length gn) (.slice Ge Q.es.length ge))
            have GR_W34 := Lib.hid (grAt_set GR_W33.out BG_W33.out (.slice Gn Q.ns.length gn) (.slice Ge Q.es.length ge))
            have BM_W34 := Lib.hid (BM_W33.out.far ngxgy (.slice Gn Q.ns.length gn) (.slice Ge Q.es.length ge))
            clear S_W33 WD_W33 BG_W33 GR_W33 BM_W33
            refine hK.out _ _ (HMM.out _ S_W34.out) (fun _ => ?_)
            clear hK K
            try simp only [Act.put, List.setIfInBounds_toArray, List.set_cons_zero, List.set_cons_succ]
            generalize (W33.setCell ⟨gx, 0, none⟩ (.slice Gn Q.ns.length gn)).setCell ⟨gx, 1, none⟩ (.slice Ge Q.es.length ge) = W34 at *
            refine wpAnyH_ready (rs := [21]) (by kernel_rfl) (by simp) ?_
            refine AllReadyH.cons (oper_at (r := _) rfl) (fun K hK => ?_) AllReadyH.nil
            have fr0 := BM_W34.out.free 0
            have fr1 := BM_W34.out.free 1
            obtain ⟨e0, e1⟩ := BM_W34.out.cells
            go_simp
            clear fr0 fr1 e0 e1
            have S_W35 := Lib.hid ((S_W34.out.far (p := ⟨gy, 0, none⟩) (by show w.heap.size + 4 ≤ gy; omega) (.slice Kn kn.1 kn.2)).far (p := ⟨gy, 1, none⟩) (by show w.heap.size + 4 ≤ gy; omega) (.slice Ke ke.1 ke.2))
            have WD_W35 := Lib.hid ((WD_W34.out.setCell (p := ⟨gy, 0, none⟩) (by show wd.heap.size ≤ gy; omega) (.slice Kn kn.1 kn.2)).setCell (p := ⟨gy, 1, none⟩) (by show wd.heap.size ≤ gy; omega) (.slice Ke ke.1 ke.2))
            have BG_W35 := Lib.hid (BG_W34.out.far ngygx (.slice Kn kn.1 kn.2) (.slice Ke ke.1 ke.2))
            have GR_W35 := Lib.hid (grAt_set GR_W34.out BM_W34.out (.slice Kn kn.1 kn.2) (.slice Ke ke.1 ke.2))
            have BM_W35 := Lib.hid (BM_W34.out.put (.slice Kn kn.1 kn.2) (.slice Ke ke.1 ke.2))
            clear S_W34 WD_W34 BG_W34 GR_W34 BM_W34
            refine hK.out _ _ (HMM.out _ S_W35.out) (fun _ => ?_)
            clear hK K
            try simp only [Act.put, List.setIfInBounds_toArray, List.set_cons_zero, List.set_cons_succ]
            generalize (W34.setCell ⟨gy, 0, none⟩ (.slice Kn kn.1 kn.2)).setCell ⟨gy, 1, none⟩ (.slice Ke ke.1 ke.2) = W35 at *
            refine wpAnyH_take (i := 22) (v := ?_) (oper_at (r := _) rfl) (by kernel_rfl) (by kernel_rfl) (by kernel_rfl) (fun _ _ _ h => h) (Or.inl ⟨by rfl, ?_⟩) (by assumption) ?_
            rotate_left
            · intro w hSw; try dsimp only at hSw
              go_simp
              try with_reducible rfl
            try simp only [Act.put, List.setIfInBounds_toArray, List.set_cons_zero, List.set_cons_succ]
            refine wpAnyH_done (by kernel_rfl) ?_ _
            refine NoPanic.normal ?_
            go_wp2_with fail
            go_meet
            exact ⟨gx, Gn, gn, Ge, ge, rfl, Nat.le_trans lsr lgx, BG_W35.out, GR_W35.out, S_W35.out⟩
          · skip
            obtain ⟨gy, hg⟩ : ∃ g, g = W31.heap.size := ⟨_, rfl⟩
            have lgy : wd.heap.size ≤ gy := by rw [hg]; exact WD_W31.out.size
            have ngygx : gx ≠ gy := by have := BG_W31.out.lt; omega
            have ngxgy : gy ≠ gx := Ne.symm ngygx
            have hx : BX gy (.slice none 0 0) (.slice none 0 0) 30 (W31.alloc (.cells #[.slice none 0 0, .slice none 0 0] 30)) := by rw [hg]; exact heap_alloc_new _ _
            have hb : Below W31.heap.size W31 (W31.alloc (.cells #[.slice none 0 0, .slice none 0 0] 30)) := (Below.refl _ _).alloc (Nat.le_refl _) _
            have S_W36 := Lib.hid (S_W31.out.up hb)
            have WD_W36 := Lib.hid (WD_W31.out.trans (hb.mono WD_W31.out.size))
            have MA_W36 := Lib.hid (Reads.up MA_W31.out hb)
            have BG_W36 := Lib.hid (BG_W31.out.up hb)
            have MB_W36 := Lib.hid (Reads.up MB_W31.out hb)
            clear S_W31 WD_W31 MA_W31 BG_W31 MB_W31
            have BM_W36 := Lib.hid hx
            clear hx hb
            go_simp
            refine hK.out _ _ (HMM.out _ S_W36.out) (fun _ => ?_)
            clear hK K
            try simp only [Act.put, List.setIfInBounds_toArray, List.set_cons_zero, List.set_cons_succ]
            generalize W31.alloc (.cells #[.slice none 0 0, .slice none 0 0] 30) = W36 at *
            try rw [← hg]
            clear hg
            refine wpAnyH_ready (rs := [13]) (by kernel_rfl) (by simp) ?_
            refine AllReadyH.cons (oper_at (r := _) rfl) (fun K hK => ?_) AllReadyH.nil
            go_simp
            refine (HRM2.out X1 x1 X2 x2 _ S_W36.out.1 MA_W36.out MB_W36.out).mono ?_
            rintro e W37 ⟨⟨Gn, gn, Ge, ge, Kn, kn, Ke, ke, rfl, r1⟩, hb⟩
            have S_W37 := Lib.hid (S_W36.out.up hb)
            have WD_W37 := Lib.hid (WD_W36.out.trans (hb.mono WD_W36.out.size))
            have MA_W37 := Lib.hid (Reads.up MA_W36.out hb)
            have BG_W37 := Lib.hid (BG_W36.out.up hb)
            have MB_W37 := Lib.hid (Reads.up MB_W36.out hb)
            have BM_W37 := Lib.hid (BM_W36.out.up hb)
            clear S_W36 WD_W36 MA_W36 BG_W36 MB_W36 BM_W36
            have GR_W37 := Lib.hid r1
            clear hb r1
            go_wp2_with fail
            refine hK.out _ _ (HMM.out _ S_W37.out) (fun _ => ?_)
            clear hK K
            try simp only [Act.put, List.setIfInBounds_toArray, List.set_cons_zero, List.set_cons_succ]
            refine wpAnyH_take (i := 14) (v := ?_) (oper_at (r := _) rfl) (by kernel_rfl) (by kernel_rfl) (by kernel_rfl) (fun _ _ _ h => h) (Or.inl ⟨by rfl, ?_⟩) (by assumption) ?_
            rotate_left
            · intro w hSw; try dsimp only at hSw
              go_simp
              try with_reducible rfl
            try simp only [Act.put, List.setIfInBounds_toArray, List.set_cons_zero, List.set_cons_succ]
            refine wpAnyH_take (i := 15) (v := ?_) (oper_at (r := _) rfl) (by kernel_rfl) (by kernel_rfl) (by kernel_rfl) (fun _ _ _ h => h) (Or.inl ⟨by rfl, ?_⟩) (by assumption) ?_
            rotate_left
            · intro w hSw; try dsimp only at hSw
              go_simp
              try with_reducible rfl
            try simp only [Act.put, List.setIfInBounds_toArray, List.set_cons_zero, List.set_cons_succ]
            refine wpAnyH_take (i := 16) (v := ?_) (oper_at (r := _) rfl) (by kernel_rfl) (by kernel_rfl) (by kernel_rfl) (fun _ _ _ h => h) (Or.inl ⟨by rfl, ?_⟩) (by assumption) ?_
            rotate_left
            · intro w hSw; try dsimp only at hSw
              go_simp
              try with_reducible rfl
            try simp only [Act.put, List.setIfInBounds_toArray, List.set_cons_zero, List.set_cons_succ]
            refine wpAnyH_take (i := 17) (v := ?_) (oper_at (r := _) rfl) (by kernel_rfl) (by kernel_rfl) (by kernel_rfl) (fun _ _ _ h => h) (Or.inl ⟨by rfl, ?_⟩) (by assumption) ?_
            rotate_left
            · intro w hSw; try dsimp only at hSw
              go_simp
              try with_reducible rfl
            try simp only [Act.put, List.setIfInBounds_toArray, List.set_cons_zero, List.set_cons_succ]
            refine wpAnyH_ready (rs := [20]) (by kernel_rfl) (by simp) ?_
            refine AllReadyH.cons (oper_at (r := _) rfl) (fun K hK => ?_) AllReadyH.nil
            have fr0 := BG_W37.out.free 0
            have fr1 := BG_W37.out.free 1
            obtain ⟨e0, e1⟩ := BG_W37.out.cells
            go_simp
            clear fr0 fr1 e0 e1
            have S_W38 := Lib.hid ((S_W37.out.far (p := ⟨gx, 0, none⟩) (by show w.heap.size + 4 ≤ gx; omega) (.slice Gn Q.ns.length gn)).far (p := ⟨gx, 1, none⟩) (by show w.heap.size + 4 ≤ gx; omega) (.slice Ge Q.es.length ge))
            have WD_W38 := Lib.hid ((WD_W37.out.setCell (p := ⟨gx, 0, none⟩) (by show wd.heap.size ≤ gx; omega) (.slice Gn Q.ns.length gn)).setCell (p := ⟨gx, 1, none⟩) (by show wd.heap.size ≤ gx; omega) (.slice Ge Q.es.length ge))
            have BG_W38 := Lib.hid (BG_W37.out.put (.slice Gn Q.ns.length gn) (.slice Ge Q.es.length ge))
            have BM_W38 := Lib.hid (BM_W37.out.far ngxgy (.slice Gn Q.ns.length gn) (.slice Ge Q.es.length ge))
            have GR_W38 := Lib.hid (grAt_set GR_W37.out BG_W37.out (.slice Gn Q.ns.length gn) (.slice Ge Q.es.length ge))
            clear S_W37 WD_W37 BG_W37 BM_W37 GR_W37
            refine hK.out _ _ (HMM.out _ S_W38.out) (fun _ => ?_)
            clear hK K
            try simp only [Act.put, List.setIfInBounds_toArray, List.set_cons_zero, List.set_cons_succ]
            generalize (W37.setCell ⟨gx, 0, none⟩ (.slice Gn Q.ns.length gn)).setCell ⟨gx, 1, none⟩ (.slice Ge Q.es.length ge) = W38 at *
            refine wpAnyH_ready (rs := [21]) (by kernel_rfl) (by simp) ?_
            refine AllReadyH.cons (oper_at (r := _) rfl) (fun K hK => ?_) AllReadyH.nil
            have fr0 := BM_W38.out.free 0
            have fr1 := BM_W38.out.free 1
            obtain ⟨e0, e1⟩ := BM_W38.out.cells
            go_simp
            clear fr0 fr1 e0 e1
            have S_W39 := Lib.hid ((S_W38.out.far (p := ⟨gy, 0, none⟩) (by show w.heap.size + 4 ≤ gy; omega) (.slice Kn kn.1 kn.2)).far (p := ⟨gy, 1, none⟩) (by show w.heap.size + 4 ≤ gy; omega) (.slice Ke ke.1 ke.2))
            have WD_W39 := Lib.hid ((WD_W38.out.setCell (p := ⟨gy, 0, none⟩) (by show wd.heap.size ≤ gy; omega) (.slice Kn kn.1 kn.2)).setCell (p := ⟨gy, 1, none⟩) (by show wd.heap.size ≤ gy; omega) (.slice Ke ke.1 ke.2))
            have BG_W39 := Lib.hid (BG_W38.out.far ngygx (.slice Kn kn.1 kn.2) (.slice Ke ke.1 ke.2))
            have BM_W39 := Lib.hid (BM_W38.out.put (.slice Kn kn.1 kn.2) (.slice Ke ke.1 ke.2))
            have GR_W39 := Lib.hid (grAt_set GR_W38.out BM_W38.out (.slice Kn kn.1 kn.2) (.slice Ke ke.1 ke.2))
            clear S_W38 WD_W38 BG_W38 BM_W38 GR_W38
            refine hK.out _ _ (HMM.out _ S_W39.out) (fun _ => ?_)
            clear hK K
            try simp only [Act.put, List.setIfInBounds_toArray, List.set_cons_zero, List.set_cons_succ]
            generalize (W38.setCell ⟨gy, 0, none⟩ (.slice Kn kn.1 kn.2)).setCell ⟨gy, 1, none⟩ (.slice Ke ke.1 ke.2) = W39 at *
            refine wpAnyH_take (i := 22) (v := ?_) (oper_at (r := _) rfl) (by kernel_rfl) (by kernel_rfl) (by kernel_rfl) (fun _ _ _ h => h) (Or.inl ⟨by rfl, ?_⟩) (by assumption) ?_
            rotate_left
            · intro w hSw; try dsimp only at hSw
              go_simp
              try with_reducible rfl
            try simp only [Act.put, List.setIfInBounds_toArray, List.set_cons_zero, List.set_cons_succ]
            refine wpAnyH_done (by kernel_rfl) ?_ _
            refine NoPanic.normal ?_
            go_wp2_with fail
            go_meet
            exact ⟨gx, Gn, gn, Ge, ge, rfl, Nat.le_trans lsr lgx, BG_W39.out, GR_W39.out, S_W39.out⟩
        · skip
          obtain ⟨gy, hg⟩ : ∃ g, g = W30.heap.size := ⟨_, rfl⟩
          have lgy : wd.heap.size ≤ gy := by rw [hg]; exact WD_W30.out.size
          have ngygx : gx ≠ gy := by have := BG_W30.out.lt; omega
          have ngxgy : gy ≠ gx := Ne.symm ngygx
          have hx : BX gy (.slice none 0 0) (.slice none 0 0) 30 (W30.alloc (.cells #[.slice none 0 0, .slice none 0 0] 30)) := by rw [hg]; exact heap_alloc_new _ _
          have hb : Below W30.heap.size W30 (W30.alloc (.cells #[.slice none 0 0, .slice none 0 0] 30)) := (Below.refl _ _).alloc (Nat.le_refl _) _
          have S_W40 := Lib.hid (S_W30.out.up hb)
          have WD_W40 := Lib.hid (WD_W30.out.trans (hb.mono WD_W30.out.size))
          have MA_W40 := Lib.hid (Reads.up MA_W30.out hb)
          have BG_W40 := Lib.hid (BG_W30.out.up hb)
          clear S_W30 WD_W30 MA_W30 BG_W30
          have BM_W40 := Lib.hid hx
          clear hx hb
          go_simp
          refine hK.out _ _ (HMM.out _ S_W40.out) (fun _ => ?_)
          clear hK K
          try simp only [Act.put, List.setIfInBounds_toArray, List.set_cons_zero, List.set_cons_succ]
          generalize W30.alloc (.cells #[.slice none 0 0, .slice none 0 0] 30) = W40 at *
          try rw [← hg]
          clear hg
          refine wpAnyH_ready (rs := [12]) (by kernel_rfl) (by simp) ?_
          refine AllReadyH.cons (oper_at (r := _) rfl) (fun K hK => ?_) AllReadyH.nil
          go_simp
          refine (HMB2.out _ S_W40.out.1).mono ?_
          rintro e W41 ⟨⟨X2, x2, rfl, r1⟩, hb⟩
          have S_W41 := Lib.hid (S_W40.out.up hb)
          have WD_W41 := Lib.hid (WD_W40.out.trans (hb.mono WD_W40.out.size))
          have MA_W41 := Lib.hid (Reads.up MA_W40.out hb)
          have BG_W41 := Lib.hid (BG_W40.out.up hb)
          have BM_W41 := Lib.hid (BM_W40.out.up hb)
          clear S_W40 WD_W40 MA_W40 BG_W40 BM_W40
          have MB_W41 := Lib.hid r1
          clear hb r1
          go_wp2_with fail
          refine hK.out _ _ (HMM.out _ S_W41.out) (fun _ => ?_)
          clear hK K
          try simp only [Act.put, List.setIfInBounds_toArray, List.set_cons_zero, List.set_cons_succ]
          refine wpAnyH_ready (rs := [13]) (by kernel_rfl) (by simp) ?_
          refine AllReadyH.cons (oper_at (r := _) rfl) (fun K hK => ?_) AllReadyH.nil
          go_simp
          refine (HRM2.out X1 x1 X2 x2 _ S_W41.out.1 MA_W41.out MB_W41.out).mono ?_
          rintro e W42 ⟨⟨Gn, gn, Ge, ge, Kn, kn, Ke, ke, rfl, r1⟩, hb⟩
          have S_W42 := Lib.hid (S_W41.out.up hb)
          have WD_W42 := Lib.hid (WD_W41.out.trans (hb.mono WD_W41.out.size))
          have MA_W42 := Lib.hid (Reads.up MA_W41.out hb)
          have BG_W42 := Lib.hid (BG_W41.out.up hb)
          have BM_W42 := Lib.hid (BM_W41.out.up hb)
          have MB_W42 := Lib.hid (Reads.up MB_W41.out hb)
          clear S_W41 WD_W41 MA_W41 BG_W41 BM_W41 MB_W41
          have GR_W42 := Lib.hid r1
          clear hb r1
          go_wp2_with fail
          refine hK.out _ _ (HMM.out _ S_W42.out) (fun _ => ?_)
          clear hK K
          try simp only [Act.put, List.setIfInBounds_toArray, List.set_cons_zero, List.set_cons_succ]
          refine wpAnyH_take (i := 14) (v := ?_) (oper_at (r := _) rfl) (by kernel_rfl) (by kernel_rfl) (by kernel_rfl) (fun _ _ _ h => h) (Or.inl ⟨by rfl, ?_⟩) (by assumption) ?_
          rotate_left
          · intro w hSw; try dsimp only at hSw
            go_simp
            try with_reducible rfl
          try simp only [Act.put, List.setIfInBounds_toArray, List.set_cons_zero, List.set_cons_succ]
          refine wpAnyH_take (i := 15) (v := ?_) (oper_at (r := _) rfl) (by kernel_rfl) (by kernel_rfl) (by kernel_rfl) (fun _ _ _ h => h) (Or.inl ⟨by rfl, ?_⟩) (by assumption) ?_
          rotate_left
          · intro w hSw; try dsimp only at hSw
            go_simp
            try with_reducible rfl
          try simp only [Act.put, List.setIfInBounds_toArray, List.set_cons_zero, List.set_cons_succ]
          refine wpAnyH_take (i := 16) (v := ?_) (oper_at (r := _) rfl) (by kernel_rfl) (by kernel_rfl) (by kernel_rfl) (fun _ _ _ h => h) (Or.inl ⟨by rfl, ?_⟩) (by assumption) ?_
          rotate_left
          · intro w hSw; try dsimp only at hSw
            go_simp
            try with_reducible rfl
          try simp only [Act.put, List.setIfInBounds_toArray, List.set_cons_zero, List.set_cons_succ]
          refine wpAnyH_take (i := 17) (v := ?_) (oper_at (r := _) rfl) (by kernel_rfl) (by kernel_rfl) (by kernel_rfl) (fun _ _ _ h => h) (Or.inl ⟨by rfl, ?_⟩) (by assumption) ?_
          rotate_left
          · intro w hSw; try dsimp only at hSw
            go_simp
            try with_reducible rfl
          try simp only [Act.put, List.setIfInBounds_toArray, List.set_cons_zero, List.set_cons_succ]
          refine wpAnyH_ready (rs := [20]) (by kernel_rfl) (by simp) ?_
          refine AllReadyH.cons (oper_at (r := _) rfl) (fun K hK => ?_) AllReadyH.nil
          have fr0 := BG_W42.out.free 0
          have fr1 := BG_W42.out.free 1
          obtain ⟨e0, e1⟩ := BG_W42.out.cells
          go_simp
          clear fr0 fr1 e0 e1
          have S_W43 := Lib.hid ((S_W42.out.far (p := ⟨gx, 0, none⟩) (by show w.heap.size + 4 ≤ gx; omega) (.slice Gn Q.ns.length gn)).far (p := ⟨gx, 1, none⟩) (by show w.heap.size + 4 ≤ gx; omega) (.slice Ge Q.es.length ge))
          have WD_W43 := Lib.hid ((WD_W42.out.setCell (p := ⟨gx, 0, none⟩) (by show wd.heap.size ≤ gx; omega) (.slice Gn Q.ns.length gn)).setCell (p := ⟨gx, 1, none⟩) (by show wd.heap.size ≤ gx; omega) (.slice Ge Q.es.length ge))
          have BG_W43 := Lib.hid (BG_W42.out.put (.slice Gn Q.ns.length gn) (.slice Ge Q.es.length ge))
          have BM_W43 := Lib.hid (BM_W42.out.far ngxgy (.slice Gn Q.ns.length gn) (.slice Ge Q.es.length ge))
          have GR_W43 := Lib.hid (grAt_set GR_W42.out BG_W42.out (.slice Gn Q.ns.length gn) (.slice Ge Q.es.length ge))
          clear S_W42 WD_W42 BG_W42 BM_W42 GR_W42
          refine hK.out _ _ (HMM.out _ S_W43.out) (fun _ => ?_)
          clear hK K
          try simp only [Act.put, List.setIfInBounds_toArray, List.set_cons_zero, List.set_cons_succ]
          generalize (W42.setCell ⟨gx, 0, none⟩ (.slice Gn Q.ns.length gn)).setCell ⟨gx, 1, none⟩ (.slice Ge Q.es.length ge) = W43 at *
          refine wpAnyH_ready (rs := [21]) (by kernel_rfl) (by simp) ?_
          refine AllReadyH.cons (oper_at (r := _) rfl) (fun K hK => ?_) AllReadyH.nil
          have fr0 := BM_W43.out.free 0
          have fr1 := BM_W43.out.free 1
          obtain ⟨e0, e1⟩ := BM_W43.out.cells
          go_simp
          clear fr0 fr1 e0 e1
          have S_W44 := Lib.hid ((S_W43.out.far (p := ⟨gy, 0, none⟩) (by show w.heap.size + 4 ≤ gy; omega) (.slice Kn kn.1 kn.2)).far (p := ⟨gy, 1, none⟩) (by show w.heap.size + 4 ≤ gy; omega) (.slice Ke ke.1 ke.2))
          have WD_W44 := Lib.hid ((WD_W43.out.setCell (p := ⟨gy, 0, none⟩) (by show wd.heap.size ≤ gy; omega) (.slice Kn kn.1 kn.2)).setCell (p := ⟨gy, 1, none⟩) (by show wd.heap.size ≤ gy; omega) (.slice Ke ke.1 ke.2))
          have BG_W44 := Lib.hid (BG_W43.out.far ngygx (.slice Kn kn.1 kn.2) (.slice Ke ke.1 ke.2))
          have BM_W44 := Lib.hid (BM_W43.out.put (.slice Kn kn.1 kn.2) (.slice Ke ke.1 ke.2))
          have GR_W44 := Lib.hid (grAt_set GR_W43.out BM_W43.out (.slice Kn kn.1 kn.2) (.slice Ke ke.1 ke.2))
          clear S_W43 WD_W43 BG_W43 BM_W43 GR_W43
          refine hK.out _ _ (HMM.out _ S_W44.out) (fun _ => ?_)
          clear hK K
          try simp only [Act.put, List.setIfInBounds_toArray, List.set_cons_zero, List.set_cons_succ]
          generalize (W43.setCell ⟨gy, 0, none⟩ (.slice Kn kn.1 kn.2)).setCell ⟨gy, 1, none⟩ (.slice Ke ke.1 ke.2) = W44 at *
          refine wpAnyH_take (i := 22) (v := ?_) (oper_at (r := _) rfl) (by kernel_rfl) (by kernel_rfl) (by kernel_rfl) (fun _ _ _ h => h) (Or.inl ⟨by rfl, ?_⟩) (by assumption) ?_
          rotate_left
          · intro w hSw; try dsimp only at hSw
            go_simp
            try with_reducible rfl
          try simp only [Act.put, List.setIfInBounds_toArray, List.set_cons_zero, List.set_cons_succ]
          refine wpAnyH_done (by kernel_rfl) ?_ _
          refine NoPanic.normal ?_
          go_wp2_with fail
          go_meet
          exact ⟨gx, Gn, gn, Ge, ge, rfl, Nat.le_trans lsr lgx, BG_W44.out, GR_W44.out, S_W44.out⟩
      · skip
        obtain ⟨gy, hg⟩ : ∃ g, g = W1.heap.size := ⟨_, rfl⟩
        have lgy : wd.heap.size ≤ gy := by rw [hg]; exact WD_W1.out.size
        have hx : BX gy (.slice none 0 0) (.slice none 0 0) 30 (W1.alloc (.cells #[.slice none 0 0, .slice none 0 0] 30)) := by rw [hg]; exact heap_alloc_new _ _
        have hb : Below W1.heap.size W1 (W1.alloc (.cells #[.slice none 0 0, .slice none 0 0] 30)) := (Below.refl _ _).alloc (Nat.le_refl _) _
        have S_W45 := Lib.hid (S_W1.out.up hb)
        have WD_W45 := Lib.hid (WD_W1.out.trans (hb.mono WD_W1.out.size))
        have MA_W45 := Lib.hid (Reads.up MA_W1.out hb)
        clear S_W1 WD_W1 MA_W1
        have BM_W45 := Lib.hid hx
        clear hx hb
        go_simp
        refine hK.out _ _ (HMM.out _ S_W45.out) (fun _ => ?_)
        clear hK K
        try simp only [Act.put, List.setIfInBounds_toArray, List.set_cons_zero, List.set_cons_succ]
        generalize W1.alloc (.cells #[.slice none 0 0, .slice none 0 0] 30) = W45 at *
        try rw [← hg]
        clear hg
        refine wpAnyH_ready (rs := [12, 18]) (by kernel_rfl) (by simp) ?_
        refine (AllReadyH.cons (oper_at (r := _) rfl) (fun K hK => ?_) (AllReadyH.cons (oper_at (r := _) rfl) (fun K hK => ?_) AllReadyH.nil))
        · skip
          go_simp
          refine (HMB2.out _ S_W45.out.1).mono ?_
          rintro e W46 ⟨⟨X2, x2, rfl, r1⟩, hb⟩
          have S_W46 := Lib.hid (S_W45.out.up hb)
          have WD_W46 := Lib.hid (WD_W45.out.trans (hb.mono WD_W45.out.size))
          have MA_W46 := Lib.hid (Reads.up MA_W45.out hb)
          have BM_W46 := Lib.hid (BM_W45.out.up hb)
          clear S_W45 WD_W45 MA_W45 BM_W45
          have MB_W46 := Lib.hid r1
          clear hb r1
          go_wp2_with fail
          refine hK.out _ _ (HMM.out _ S_W46.out) (fun _ => ?_)
          clear hK K
          try simp only [Act.put, List.setIfInBounds_toArray, List.set_cons_zero, List.set_cons_succ]
          refine wpAnyH_ready (rs := [13, 18]) (by kernel_rfl) (by simp) ?_
          refine (AllReadyH.cons (oper_at (r := _) rfl) (fun K hK => ?_) (AllReadyH.cons (oper_at (r := _) rfl) (fun K hK => ?_) AllReadyH.nil))
          · skip
            go_simp
            refine (HRM2.out X1 x1 X2 x2 _ S_W46.out.1 MA_W46.out MB_W46.out).mono ?_
            rintro e W47 ⟨⟨Gn, gn, Ge, ge, Kn, kn, Ke, ke, rfl, r1⟩, hb⟩
            have S_W47 := Lib.hid (S_W46.out.up hb)
            have WD_W47 := Lib.hid (WD_W46.out.trans (hb.mono WD_W46.out.size))
            have MA_W47 := Lib.hid (Reads.up MA_W46.out hb)
            have BM_W47 := Lib.hid (BM_W46.out.up hb)
            have MB_W47 := Lib.hid (Reads.up MB_W46.out hb)
            clear S_W46 WD_W46 MA_W46 BM_W46 MB_W46
            have GR_W47 := Lib.hid r1
            clear hb r1
            go_wp2_with fail
            refine hK.out _ _ (HMM.out _ S_W47.out) (fun _ => ?_)
            clear hK K
            try simp only [Act.put, List.setIfInBounds_toArray, List.set_cons_zero, List.set_cons_succ]
            refine wpAnyH_take (i := 14) (v := ?_) (oper_at (r := _) rfl) (by kernel_rfl) (by kernel_rfl) (by kernel_rfl) (fun _ _ _ h => h) (Or.inl ⟨by rfl, ?_⟩) (by assumption) ?_
            rotate_left
            · intro w hSw; try dsimp only at hSw
              go_simp
              try with_reducible rfl
            try simp only [Act.put, List.setIfInBounds_toArray, List.set_cons_zero, List.set_cons_succ]
            refine wpAnyH_take (i := 15) (v := ?_) (oper_at (r := _) rfl) (by kernel_rfl) (by kernel_rfl) (by kernel_rfl) (fun _ _ _ h => h) (Or.inl ⟨by rfl, ?_⟩) (by assumption) ?_
            rotate_left
            · intro w hSw; try dsimp only at hSw
              go_simp
              try with_reducible rfl
            try simp only [Act.put, List.setIfInBounds_toArray, List.set_cons_zero, List.set_cons_succ]
            refine wpAnyH_take (i := 16) (v := ?_) (oper_at (r := _) rfl) (by kernel_rfl) (by kernel_rfl) (by kernel_rfl) (fun _ _ _ h => h) (Or.inl ⟨by rfl, ?_⟩) (by assumption) ?_
            rotate_left
            · intro w hSw; try dsimp only at hSw
              go_simp
              try with_reducible rfl
            try simp only [Act.put, List.setIfInBounds_toArray, List.set_cons_zero, List.set_cons_succ]
            refine wpAnyH_take (i := 17) (v := ?_) (oper_at (r := _) rfl) (by kernel_rfl) (by kernel_rfl) (by kernel_rfl) (fun _ _ _ h => h) (Or.inl ⟨by rfl, ?_⟩) (by assumption) ?_
            rotate_left
            · intro w hSw; try dsimp only at hSw
              go_simp
              try with_reducible rfl
            try simp only [Act.put, List.setIfInBounds_toArray, List.set_cons_zero, List.set_cons_succ]
            refine wpAnyH_ready (rs := [18]) (by kernel_rfl) (by simp) ?_
            refine AllReadyH.cons (oper_at (r := _) rfl) (fun K hK => ?_) AllReadyH.nil
            obtain ⟨gx, hg⟩ : ∃ g, g = W47.heap.size := ⟨_, rfl⟩
            have lgx : wd.heap.size ≤ gx := by rw [hg]; exact WD_W47.out.size
            have ngxgy : gy ≠ gx := by have := BM_W47.out.lt; omega
            have ngygx : gx ≠ gy := Ne.symm ngxgy
            have hx : BX gx (.slice none 0 0) (.slice none 0 0) 25 (W47.alloc (.cells #[.slice none 0 0, .slice none 0 0] 25)) := by rw [hg]; exact heap_alloc_new _ _
            have hb : Below W47.heap.size W47 (W47.alloc (.cells #[.slice none 0 0, .slice none 0 0] 25)) := (Below.refl _ _).alloc (Nat.le_refl _) _
            have S_W48 := Lib.hid (S_W47.out.up hb)
            have WD_W48 := Lib.hid (WD_W47.out.trans (hb.mono WD_W47.out.size))
            have BM_W48 := Lib.hid (BM_W47.out.up hb)
            have GR_W48 := Lib.hid (GR_W47.out.up hb)
            clear S_W47 WD_W47 BM_W47 GR_W47
            have BG_W48 := Lib.hid hx
            clear hx hb
            go_simp
            refine hK.out _ _ (HMM.out _ S_W48.out) (fun _ => ?_)
            clear hK K
            try simp only [Act.put, List.setIfInBounds_toArray, List.set_cons_zero, List.set_cons_succ]
            generalize W47.alloc (.cells #[.slice none 0 0, .slice none 0 0] 25) = W48 at *
            try rw [← hg]
            clear hg
            refine wpAnyH_ready (rs := [20]) (by kernel_rfl) (by simp) ?_
            refine AllReadyH.cons (oper_at (r := _) rfl) (fun K hK => ?_) AllReadyH.nil
            have fr0 := BG_W48.out.free 0
            have fr1 := BG_W48.out.free 1
            obtain ⟨e0, e1⟩ := BG_W48.out.cells
            go_simp
            clear fr0 fr1 e0 e1
            have S_W49 := Lib.hid ((S_W48.out.far (p := ⟨gx, 0, none⟩) (by show w.heap.size + 4 ≤ gx; omega) (.slice Gn Q.ns.length gn)).far (p := ⟨gx, 1, none⟩) (by show w.heap.size + 4 ≤ gx; omega) (.slice Ge Q.es.length ge))
            have WD_W49 := Lib.hid ((WD_W48.out.setCell (p := ⟨gx, 0, none⟩) (by show wd.heap.size ≤ gx; omega) (.slice Gn Q.ns.length gn)).setCell (p := ⟨gx, 1, none⟩) (by show wd.heap.size ≤ gx; omega) (.slice Ge Q.es.length ge))
            have BM_W49 := Lib.hid (BM_W48.out.far ngxgy (.slice Gn Q.ns.length gn) (.slice Ge Q.es.length ge))
            have GR_W49 := Lib.hid (grAt_set GR_W48.out BG_W48.out (.slice Gn Q.ns.length gn) (.slice Ge Q.es.length ge))
            have BG_W49 := Lib.hid (BG_W48.out.put (.slice Gn Q.ns.length gn) (.slice Ge Q.es.length ge))
            clear S_W48 WD_W48 BM_W48 GR_W48 BG_W48
            refine hK.out _ _ (HMM.out _ S_W49.out) (fun _ => ?_)
            clear hK K
            try simp only [Act.put, List.setIfInBounds_toArray, List.set_cons_zero, List.set_cons_succ]
            generalize (W48.setCell ⟨gx, 0, none⟩ (.slice Gn Q.ns.length gn)).setCell ⟨gx, 1, none⟩ (.slice Ge Q.es.length ge) = W49 at *
            refine wpAnyH_ready (rs := [21]) (by kernel_rfl) (by simp) ?_
            refine AllReadyH.cons (oper_at (r := _) rfl) (fun K hK => ?_) AllReadyH.nil
            have fr0 := BM_W49.out.free 0
            have fr1 := BM_W49.out.free 1
            obtain ⟨e0, e1⟩ := BM_W49.out.cells
            go_simp
            clear fr0 fr1 e0 e1
            have S_W50 := Lib.hid ((S_W49.out.far (p := ⟨gy, 0, none⟩) (by show w.heap.size + 4 ≤ gy; omega) (.slice Kn kn.1 kn.2)).far (p := ⟨gy, 1, none⟩) (by show w.heap.size + 4 ≤ gy; omega) (.slice Ke ke.1 ke.2))
            have WD_W50 := Lib.hid ((WD_W49.out.setCell (p := ⟨gy, 0, none⟩) (by show wd.heap.size ≤ gy; omega) (.slice Kn kn.1 kn.2)).setCell (p := ⟨gy, 1, none⟩) (by show wd.heap.size ≤ gy; omega) (.slice Ke ke.1 ke.2))
            have BM_W50 := Lib.hid (BM_W49.out.put (.slice Kn kn.1 kn.2) (.slice Ke ke.1 ke.2))
            have GR_W50 := Lib.hid (grAt_set GR_W49.out BM_W49.out (.slice Kn kn.1 kn.2) (.slice Ke ke.1 ke.2))
            have BG_W50 := Lib.hid (BG_W49.out.far ngygx (.slice Kn kn.1 kn.2) (.slice Ke ke.1 ke.2))
            clear S_W49 WD_W49 BM_W49 GR_W49 BG_W49
            refine hK.out _ _ (HMM.out _ S_W50.out) (fun _ => ?_)
            clear hK K
            try simp only [Act.put, List.setIfInBounds_toArray, List.set_cons_zero, List.set_cons_succ]
            generalize (W49.setCell ⟨gy, 0, none⟩ (.slice Kn kn.1 kn.2)).setCell ⟨gy, 1, none⟩ (.slice Ke ke.1 ke.2) = W50 at *
            refine wpAnyH_take (i := 22) (v := ?_) (oper_at (r := _) rfl) (by kernel_rfl) (by kernel_rfl) (by kernel_rfl) (fun _ _ _ h => h) (Or.inl ⟨by rfl, ?_⟩) (by assumption) ?_
            rotate_left
            · intro w hSw; try dsimp only at hSw
              go_simp
              try with_reducible rfl
            try simp only [Act.put, List.setIfInBounds_toArray, List.set_cons_zero, List.set_cons_succ]
            refine wpAnyH_done (by kernel_rfl) ?_ _
            refine NoPanic.normal ?_
            go_wp2_with fail
            go_meet
            exact ⟨gx, Gn, gn, Ge, ge, rfl, Nat.le_trans lsr lgx, BG_W50.out, GR_W50.out, S_W50.out⟩
          · skip
            obtain ⟨gx, hg⟩ : ∃ g, g = W46.heap.size := ⟨_, rfl⟩
            have lgx : wd.heap.size ≤ gx := by rw [hg]; exact WD_W46.out.size
            have ngxgy : gy ≠ gx := by have := BM_W46.out.lt; omega
            have ngygx : gx ≠ gy := Ne.symm ngxgy
            have hx : BX gx (.slice none 0 0) (.slice none 0 0) 25 (W46.alloc (.cells #[.slice none 0 0, .slice none 0 0] 25)) := by rw [hg]; exact heap_alloc_new _ _
            have hb : Below W46.heap.size W46 (W46.alloc (.cells #[.slice none 0 0, .slice none 0 0] 25)) := (Below.refl _ _).alloc (Nat.le_refl _) _
            have S_W51 := Lib.hid (S_W46.out.up hb)
            have WD_W51 := Lib.hid (WD_W46.out.trans (hb.mono WD_W46.out.size))
            have MA_W51 := Lib.hid (Reads.up MA_W46.out hb)
            have BM_W51 := Lib.hid (BM_W46.out.up hb)
            have MB_W51 := Lib.hid (Reads.up MB_W46.out hb)
            clear S_W46 WD_W46 MA_W46 BM_W46 MB_W46
            have BG_W51 := Lib.hid hx
            clear hx hb
            go_simp
            refine hK.out _ _ (HMM.out _ S_W51.out) (fun _ => ?_)
            clear hK K
            try simp only [Act.put, List.setIfInBounds_toArray, List.set_cons_zero, List.set_cons_succ]
            generalize W46.alloc (.cells #[.slice none 0 0, .slice none 0 0] 25) = W51 at *
            try rw [← hg]
            clear hg
            refine wpAnyH_ready (rs := [13]) (by kernel_rfl) (by simp) ?_
            refine AllReadyH.cons (oper_at (r := _) rfl) (fun K hK => ?_) AllReadyH.nil
            go_simp
            refine (HRM2.out X1 x1 X2 x2 _ S_W51.out.1 MA_W51.out MB_W51.out).mono ?_
            rintro e W52 ⟨⟨Gn, gn, Ge, ge, Kn, kn, Ke, ke, rfl, r1⟩, hb⟩
            have S_W52 := Lib.hid (S_W51.out.up hb)
            have WD_W52 := Lib.hid (WD_W51.out.trans (hb.mono WD_W51.out.size))
            have MA_W52 := Lib.hid (Reads.up MA_W51.out hb)
            have BM_W52 := Lib.hid (BM_W51.out.up hb)
            have MB_W52 := Lib.hid (Reads.up MB_W51.out hb)
            have BG_W52 := Lib.hid (BG_W51.out.up hb)
            clear S_W51 WD_W51 MA_W51 BM_W51 MB_W51 BG_W51
            have GR_W52 := Lib.hid r1
            clear hb r1
            go_wp2_with fail
            refine hK.out _ _ (HMM.out _ S_W52.out) (fun _ => ?_)
            clear hK K
            try simp only [Act.put, List.setIfInBounds_toArray, List.set_cons_zero, List.set_cons_succ]
            refine wpAnyH_take (i := 14) (v := ?_) (oper_at (r := _) rfl) (by kernel_rfl) (by kernel_rfl) (by kernel_rfl) (fun _ _ _ h => h) (Or.inl ⟨by rfl, ?_⟩) (by assumption) ?_
            rotate_left
            · intro w hSw; try dsimp only at hSw
              go_simp
              try with_reducible rfl
            try simp only [Act.put, List.setIfInBounds_toArray, List.set_cons_zero, List.set_cons_succ]
            refine wpAnyH_take (i := 15) (v := ?_) (oper_at (r := _) rfl) (by kernel_rfl) (by kernel_rfl) (by kernel_rfl) (fun _ _ _ h => h) (Or.inl ⟨by rfl, ?_⟩) (by assumption) ?_
            rotate_left
            · intro w hSw; try dsimp only at hSw
              go_simp
              try with_reducible rfl
            try simp only [Act.put, List.setIfInBounds_toArray, List.set_cons_zero, List.set_cons_succ]
            refine wpAnyH_take (i := 16) (v := ?_) (oper_at (r := _) rfl) (by kernel_rfl) (by kernel_rfl) (by kernel_rfl) (fun _ _ _ h => h) (Or.inl ⟨by rfl, ?_⟩) (by assumption) ?_
            rotate_left
            · intro w hSw; try dsimp only at hSw
              go_simp
              try with_reducible rfl
            try simp only [Act.put, List.setIfInBounds_toArray, List.set_cons_zero, List.set_cons_succ]
            refine wpAnyH_take (i := 17) (v := ?_) (oper_at (r := _) rfl) (by kernel_rfl) (by kernel_rfl) (by kernel_rfl) (fun _ _ _ h => h) (Or.inl ⟨by rfl, ?_⟩) (by assumption) ?_
            rotate_left
            · intro w hSw; try dsimp only at hSw
              go_simp
              try with_reducible rfl
            try simp only [Act.put, List.setIfInBounds_toArray, List.set_cons_zero, List.set_cons_succ]
            refine wpAnyH_ready (rs := [20]) (by kernel_rfl) (by simp) ?_
            refine AllReadyH.cons (oper_at (r := _) rfl) (fun K hK => ?_) AllReadyH.nil
            have fr0 := BG_W52.out.free 0
            have fr1 := BG_W52.out.free 1
            obtain ⟨e0, e1⟩ := BG_W52.out.cells
            go_simp
            clear fr0 fr1 e0 e1
            have S_W53 := Lib.hid ((S_W52.out.far (p := ⟨gx, 0, none⟩) (by show w.heap.size + 4 ≤ gx; omega) (.slice Gn Q.ns.length gn)).far (p := ⟨gx, 1, none⟩) (by show w.heap.size + 4 ≤ gx; omega) (.slice Ge Q.es.length ge))
            have WD_W53 := Lib.hid ((WD_W52.out.setCell (p := ⟨gx, 0, none⟩) (by show wd.heap.size ≤ gx; omega) (.slice Gn Q.ns.length gn)).setCell (p := ⟨gx, 1, none⟩) (by show wd.heap.size ≤ gx; omega) (.slice Ge Q.es.length ge))
            have BM_W53 := Lib.hid (BM_W52.out.far ngxgy (.slice Gn Q.ns.length gn) (.slice Ge Q.es.length ge))
            have BG_W53 := Lib.hid (BG_W52.out.put (.slice Gn Q.ns.length gn) (.slice Ge Q.es.length ge))
            have GR_W53 := Lib.hid (grAt_set GR_W52.out BG_W52.out (.slice Gn Q.ns.length gn) (.slice Ge Q.es.length ge))
            clear S_W52 WD_W52 BM_W52 BG_W52 GR_W52
            refine hK.out _ _ (HMM.out _ S_W53.out) (fun _ => ?_)
            clear hK K
            try simp only [Act.put, List.setIfInBounds_toArray, List.set_cons_zero, List.set_cons_succ]
            generalize (W52.setCell ⟨gx, 0, none⟩ (.slice Gn Q.ns.length gn)).setCell ⟨gx, 1, none⟩ (.slice Ge Q.es.length ge) = W53 at *
            refine wpAnyH_ready (rs := [21]) (by kernel_rfl) (by simp) ?_
            refine AllReadyH.cons (oper_at (r := _) rfl) (fun K hK => ?_) AllReadyH.nil
            have fr0 := BM_W53.out.free 0
            have fr1 := BM_W53.out.free 1
            obtain ⟨e0, e1⟩ := BM_W53.out.cells
            go_simp
            clear fr0 fr1 e0 e1
            have S_W54 := Lib.hid ((S_W53.out.far (p := ⟨gy, 0, none⟩) (by show w.heap.size + 4 ≤ gy; omega) (.slice Kn kn.1 kn.2)).far (p := ⟨gy, 1, none⟩) (by show w.heap.size + 4 ≤ gy; omega) (.slice Ke ke.1 ke.2))
            have WD_W54 := Lib.hid ((WD_W53.out.setCell (p := ⟨gy, 0, none⟩) (by show wd.heap.size ≤ gy; omega) (.slice Kn kn.1 kn.2)).setCell (p := ⟨gy, 1, none⟩) (by show wd.heap.size ≤ gy; omega) (.slice Ke ke.1 ke.2))
            have BM_W54 := Lib.hid (BM_W53.out.put (.slice Kn kn.1 kn.2) (.slice Ke ke.1 ke.2))
            have BG_W54 := Lib.hid (BG_W53.out.far ngygx (.slice Kn kn.1 kn.2) (.slice Ke ke.1 ke.2))
            have GR_W54 := Lib.hid (grAt_set GR_W53.out BM_W53.out (.slice Kn kn.1 kn.2) (.slice Ke ke.1 ke.2))
            clear S_W53 WD_W53 BM_W53 BG_W53 GR_W53
            refine hK.out _ _ (HMM.out _ S_W54.out) (fun _ => ?_)
            clear hK K
            try simp only [Act.put, List.setIfInBounds_toArray, List.set_cons_zero, List.set_cons_succ]
            generalize (W53.setCell ⟨gy, 0, none⟩ (.slice Kn kn.1 kn.2)).setCell ⟨gy, 1, none⟩ (.slice Ke ke.1 ke.2) = W54 at *
            refine wpAnyH_take (i := 22) (v := ?_) (oper_at (r := _) rfl) (by kernel_rfl) (by kernel_rfl) (by kernel_rfl) (fun _ _ _ h => h) (Or.inl ⟨by rfl, ?_⟩) (by assumption) ?_
            rotate_left
            · intro w hSw; try dsimp only at hSw
              go_simp
              try with_reducible rfl
            try simp only [Act.put, List.setIfInBounds_toArray, List.set_cons_zero, List.set_cons_succ]
            refine wpAnyH_done (by kernel_rfl) ?_ _
            refine NoPanic.normal ?_
            go_wp2_with fail
            go_meet
            exact ⟨gx, Gn, gn, Ge, ge, rfl, Nat.le_trans lsr lgx, BG_W54.out, GR_W54.out, S_W54.out⟩
        · skip
          obtain ⟨gx, hg⟩ : ∃ g, g = W45.heap.size := ⟨_, rfl⟩
          have lgx : wd.heap.size ≤ gx := by rw [hg]; exact WD_W45.out.size
          have ngxgy : gy ≠ gx := by have := BM_W45.out.lt; omega
          have ngygx : gx ≠ gy := Ne.symm ngxgy
          have hx : BX gx (.slice none 0 0) (.slice none 0 0) 25 (W45.alloc (.cells #[.slice none 0 0, .slice none 0 0] 25)) := by rw [hg]; exact heap_alloc_new _ _
          have hb : Below W45.heap.size W45 (W45.alloc (.cells #[.slice none 0 0, .slice none 0 0] 25)) := (Below.refl _ _).alloc (Nat.le_refl _) _
          have S_W55 := Lib.hid (S_W45.out.up hb)
          have WD_W55 := Lib.hid (WD_W45.out.trans (hb.mono WD_W45.out.size))
          have MA_W55 := Lib.hid (Reads.up MA_W45.out hb)
          have BM_W55 := Lib.hid (BM_W45.out.up hb)
          clear S_W45 WD_W45 MA_W45 BM_W45
          have BG_W55 := Lib.hid hx
          clear hx hb
          go_simp
          refine hK.out _ _ (HMM.out _ S_W55.out) (fun _ => ?_)
          clear hK K
          try simp only [Act.put, List.setIfInBounds_toArray, List.set_cons_zero, List.set_cons_succ]
          generalize W45.alloc (.cells #[.slice none 0 0, .slice none 0 0] 25) = W55 at *
          try rw [← hg]
          clear hg
          refine wpAnyH_ready (rs := [12]) (by kernel_rfl) (by simp) ?_
          refine AllReadyH.cons (oper_at (r := _) rfl) (fun K hK => ?_) AllReadyH.nil
          go_simp
          refine (HMB2.out _ S_W55.out.1).mono ?_
          rintro e W56 ⟨⟨X2, x2, rfl, r1⟩, hb⟩
          have S_W56 := Lib.hid (S_W55.out.up hb)
          have WD_W56 := Lib.hid (WD_W55.out.trans (hb.mono WD_W55.out.size))
          have MA_W56 := Lib.hid (Reads.up MA_W55.out hb)
          have BM_W56 := Lib.hid (BM_W55.out.up hb)
          have BG_W56 := Lib.hid (BG_W55.out.up hb)
          clear S_W55 WD_W55 MA_W55 BM_W55 BG_W55
          have MB_W56 := Lib.hid r1
          clear hb r1
          go_wp2_with fail
          refine hK.out _ _ (HMM.out _ S_W56.out) (fun _ => ?_)
          clear hK K
          try simp only [Act.put, List.setIfInBounds_toArray, List.set_cons_zero, List.set_cons_succ]
          refine wpAnyH_ready (rs := [13]) (by kernel_rfl) (by simp) ?_
          refine AllReadyH.cons (oper_at (r := _) rfl) (fun K hK => ?_) AllReadyH.nil
          go_simp
          refine (HRM2.out X1 x1 X2 x2 _ S_W56.out.1 MA_W56.out MB_W56.out).mono ?_
          rintro e W57 ⟨⟨Gn, gn, Ge, ge, Kn, kn, Ke, ke, rfl, r1⟩, hb⟩
          have S_W57 := Lib.hid (S_W56.out.up hb)
          have WD_W57 := Lib.hid (WD_W56.out.trans (hb.mono WD_W56.out.size))
          have MA_W57 := Lib.hid (Reads.up MA_W56.out hb)
          have BM_W57 := Lib.hid (BM_W56.out.up hb)
          have BG_W57 := Lib.hid (BG_W56.out.up hb)
          have MB_W57 := Lib.hid (Reads.up MB_W56.out hb)
          clear S_W56 WD_W56 MA_W56 BM_W56 BG_W56 MB_W56
          have GR_W57 := Lib.hid r1
          clear hb r1
          go_wp2_with fail
          refine hK.out _ _ (HMM.out _ S_W57.out) (fun _ => ?_)
          clear hK K
          try simp only [Act.put, List.setIfInBounds_toArray, List.set_cons_zero, List.set_cons_succ]
          refine wpAnyH_take (i := 14) (v := ?_) (oper_at (r := _) rfl) (by kernel_rfl) (by kernel_rfl) (by kernel_rfl) (fun _ _ _ h => h) (Or.inl ⟨by rfl, ?_⟩) (by assumption) ?_
          rotate_left
          · intro w hSw; try dsimp only at hSw
            go_simp
            try with_reducible rfl
          try simp only [Act.put, List.setIfInBounds_toArray, List.set_cons_zero, List.set_cons_succ]
          refine wpAnyH_take (i := 15) (v := ?_) (oper_at (r := _) rfl) (by kernel_rfl) (by kernel_rfl) (by kernel_rfl) (fun _ _ _ h => h) (Or.inl ⟨by rfl, ?_⟩) (by assumption) ?_
          rotate_left
          · intro w hSw; try dsimp only at hSw
            go_simp
            try with_reducible rfl
          try simp only [Act.put, List.setIfInBounds_toArray, List.set_cons_zero, List.set_cons_succ]
          refine wpAnyH_take (i := 16) (v := ?_) (oper_at (r := _) rfl) (by kernel_rfl) (by kernel_rfl) (by kernel_rfl) (fun _ _ _ h => h) (Or.inl ⟨by rfl, ?_⟩) (by assumption) ?_
          rotate_left
          · intro w hSw; try dsimp only at hSw
            go_simp
            try with_reducible rfl
          try simp only [Act.put, List.setIfInBounds_toArray, List.set_cons_zero, List.set_cons_succ]
          refine wpAnyH_take (i := 17) (v := ?_) (oper_at (r := _) rfl) (by kernel_rfl) (by kernel_rfl) (by kernel_rfl) (fun _ _ _ h => h) (Or.inl ⟨by rfl, ?_⟩) (by assumption) ?_
          rotate_left
          · intro w hSw; try dsimp only at hSw
            go_simp
            try with_reducible rfl
          try simp only [Act.put, List.setIfInBounds_toArray, List.set_cons_zero, List.set_cons_succ]
          refine wpAnyH_ready (rs := [20]) (by kernel_rfl) (by simp) ?_
          refine AllReadyH.cons (oper_at (r := _) rfl) (fun K hK => ?_) AllReadyH.nil
          have fr0 := BG_W57.out.free 0
          have fr1 := BG_W57.out.free 1
          obtain ⟨e0, e1⟩ := BG_W57.out.cells
          go_simp
          clear fr0 fr1 e0 e1
          have S_W58 := Lib.hid ((S_W57.out.far (p := ⟨gx, 0, none⟩) (by show w.heap.size + 4 ≤ gx; omega) (.slice Gn Q.ns.length gn)).far (p := ⟨gx, 1, none⟩) (by show w.heap.size + 4 ≤ gx; omega) (.slice Ge Q.es.length ge))
          have WD_W58 := Lib.hid ((WD_W57.out.setCell (p := ⟨gx, 0, none⟩) (by show wd.heap.size ≤ gx; omega) (.slice Gn Q.ns.length gn)).setCell (p := ⟨gx, 1, none⟩) (by show wd.heap.size ≤ gx; omega) (.slice Ge Q.es.length ge))
          have BM_W58 := Lib.hid (BM_W57.out.far ngxgy (.slice Gn Q.ns.length gn) (.slice Ge Q.es.length ge))
          have BG_W58 := Lib.hid (BG_W57.out.put (.slice Gn Q.ns.length gn) (.slice Ge Q.es.length ge))
          have GR_W58 := Lib.hid (grAt_set GR_W57.out BG_W57.out (.slice Gn Q.ns.length gn) (.slice Ge Q.es.length ge))
          clear S_W57 WD_W57 BM_W57 BG_W57 GR_W57
          refine hK.out _ _ (HMM.out _ S_W58.out) (fun _ => ?_)
          clear hK K
          try simp only [Act.put, List.setIfInBounds_toArray, List.set_cons_zero, List.set_cons_succ]
          generalize (W57.setCell ⟨gx, 0, none⟩ (.slice Gn Q.ns.length gn)).setCell ⟨gx, 1, none⟩ (.slice Ge Q.es.length ge) = W58 at *
          refine wpAnyH_ready (rs := [21]) (by kernel_rfl) (by simp) ?_
          refine AllReadyH.cons (oper_at (r := _) rfl) (fun K hK => ?_) AllReadyH.nil
          have fr0 := BM_W58.out.free 0
          have fr1 := BM_W58.out.free 1
          obtain ⟨e0, e1⟩ := BM_W58.out.cells
          go_simp
          clear fr0 fr1 e0 e1
          have S_W59 := Lib.hid ((S_W58.out.far (p := ⟨gy, 0, none⟩) (by show w.heap.size + 4 ≤ gy; omega) (.slice Kn kn.1 kn.2)).far (p := ⟨gy, 1, none⟩) (by show w.heap.size + 4 ≤ gy; omega) (.slice Ke ke.1 ke.2))
          have WD_W59 := Lib.hid ((WD_W58.out.setCell (p := ⟨gy, 0, none⟩) (by show wd.heap.size ≤ gy; omega) (.slice Kn kn.1 kn.2)).setCell (p := ⟨gy, 1, none⟩) (by show wd.heap.size ≤ gy; omega) (.slice Ke ke.1 ke.2))
          have BM_W59 := Lib.hid (BM_W58.out.put (.slice Kn kn.1 kn.2) (.slice Ke ke.1 ke.2))
          have BG_W59 := Lib.hid (BG_W58.out.far ngygx (.slice Kn kn.1 kn.2) (.slice Ke ke.1 ke.2))
          have GR_W59 := Lib.hid (grAt_set GR_W58.out BM_W58.out (.slice Kn kn.1 kn.2) (.slice Ke ke.1 ke.2))
          clear S_W58 WD_W58 BM_W58 BG_W58 GR_W58
          refine hK.out _ _ (HMM.out _ S_W59.out) (fun _ => ?_)
          clear hK K
          try simp only [Act.put, List.setIfInBounds_toArray, List.set_cons_zero, List.set_cons_succ]
          generalize (W58.setCell ⟨gy, 0, none⟩ (.slice Kn kn.1 kn.2)).setCell ⟨gy, 1, none⟩ (.slice Ke ke.1 ke.2) = W59 at *
          refine wpAnyH_take (i := 22) (v := ?_) (oper_at (r := _) rfl) (by kernel_rfl) (by kernel_rfl) (by kernel_rfl) (fun _ _ _ h => h) (Or.inl ⟨by rfl, ?_⟩) (by assumption) ?_
          rotate_left
          · intro w hSw; try dsimp only at hSw
            go_simp
            try with_reducible rfl
          try simp only [Act.put, List.setIfInBounds_toArray, List.set_cons_zero, List.set_cons_succ]
          refine wpAnyH_done (by kernel_rfl) ?_ _
          refine NoPanic.normal ?_
          go_wp2_with fail
          go_meet
          exact ⟨gx, Gn, gn, Ge, ge, rfl, Nat.le_trans lsr lgx, BG_W59.out, GR_W59.out, S_W59.out⟩
    · skip
      obtain ⟨gx, hg⟩ : ∃ g, g = wd.heap.size := ⟨_, rfl⟩
      have lgx : wd.heap.size ≤ gx := by rw [hg]; exact WD_wd.out.size
      have hx : BX gx (.slice none 0 0) (.slice none 0 0) 25 (wd.alloc (.cells #[.slice none 0 0, .slice none 0 0] 25)) := by rw [hg]; exact heap_alloc_new _ _
      have hb : Below wd.heap.size wd (wd.alloc (.cells #[.slice none 0 0, .slice none 0 0] 25)) := (Below.refl _ _).alloc (Nat.le_refl _) _
      have S_W60 := Lib.hid (S_wd.out.up hb)
      have WD_W60 := Lib.hid (WD_wd.out.trans (hb.mono WD_wd.out.size))
      clear S_wd WD_wd
      have BG_W60 := Lib.hid hx
      clear hx hb
      go_simp
      refine hK.out _ _ (HMM.out _ S_W60.out) (fun _ => ?_)
      clear hK K
      try simp only [Act.put, List.setIfInBounds_toArray, List.set_cons_zero, List.set_cons_succ]
      generalize wd.alloc (.cells #[.slice none 0 0, .slice none 0 0] 25) = W60 at *
      try rw [← hg]
      clear hg
      refine wpAnyH_ready (rs := [6, 19]) (by kernel_rfl) (by simp) ?_
      refine (AllReadyH.cons (oper_at (r := _) rfl) (fun K hK => ?_) (AllReadyH.cons (oper_at (r := _) rfl) (fun K hK => ?_) AllReadyH.nil))
      · skip
        go_simp
        refine (HMA2.out _ S_W60.out.1).mono ?_
        rintro e W61 ⟨⟨X1, x1, rfl, r1⟩, hb⟩
        have S_W61 := Lib.hid (S_W60.out.up hb)
        have WD_W61 := Lib.hid (WD_W60.out.trans (hb.mono WD_W60.out.size))
        have BG_W61 := Lib.hid (BG_W60.out.up hb)
        clear S_W60 WD_W60 BG_W60
        have MA_W61 := Lib.hid r1
        clear hb r1
        go_wp2_with fail
        refine hK.out _ _ (HMM.out _ S_W61.out) (fun _ => ?_)
        clear hK K
        try simp only [Act.put, List.setIfInBounds_toArray, List.set_cons_zero, List.set_cons_succ]
        refine wpAnyH_ready (rs := [12, 19]) (by kernel_rfl) (by simp) ?_
        refine (AllReadyH.cons (oper_at (r := _) rfl) (fun K hK => ?_) (AllReadyH.cons (oper_at (r := _) rfl) (fun K hK => ?_) AllReadyH.nil))
        · skip
          go_simp
          refine (HMB2.out _ S_W61.out.1).mono ?_
          rintro e W62 ⟨⟨X2, x2, rfl, r1⟩, hb⟩
          have S_W62 := Lib.hid (S_W61.out.up hb)
          have WD_W62 := Lib.hid (WD_W61.out.trans (hb.mono WD_W61.out.size))
          have BG_W62 := Lib.hid (BG_W61.out.up hb)
          have MA_W62 := Lib.hid (Reads.up MA_W61.out hb)
          clear S_W61 WD_W61 BG_W61 MA_W61
          have MB_W62 := Lib.hid r1
          clear hb r1
          go_wp2_with fail
          refine hK.out _ _ (HMM.out _ S_W62.out) (fun _ => ?_)
          clear hK K
          try simp only [Act.put, List.setIfInBounds_toArray, List.set_cons_zero, List.set_cons_succ]
          refine wpAnyH_ready (rs := [13, 19]) (by kernel_rfl) (by simp) ?_
          refine (AllReadyH.cons (oper_at (r := _) rfl) (fun K hK => ?_) (AllReadyH.cons (oper_at (r := _) rfl) (fun K hK => ?_) AllReadyH.nil))
          · skip
            go_simp
            refine (HRM2.out X1 x1 X2 x2 _ S_W62.out.1 MA_W62.out MB_W62.out).mono ?_
            rintro e W63 ⟨⟨Gn, gn, Ge, ge, Kn, kn, Ke, ke, rfl, r1⟩, hb⟩
            have S_W63 := Lib.hid (S_W62.out.up hb)
            have WD_W63 := Lib.hid (WD_W62.out.trans (hb.mono WD_W62.out.size))
            have BG_W63 := Lib.hid (BG_W62.out.up hb)
            have MA_W63 := Lib.hid (Reads.up MA_W62.out hb)
            have MB_W63 := Lib.hid (Reads.up MB_W62.out hb)
            clear S_W62 WD_W62 BG_W62 MA_W62 MB_W62
            have GR_W63 := Lib.hid r1
            clear hb r1
            go_wp2_with fail
            refine hK.out _ _ (HMM.out _ S_W63.out) (fun _ => ?_)
            clear hK K
            try simp only [Act.put, List.setIfInBounds_toArray, List.set_cons_zero, List.set_cons_succ]
            refine wpAnyH_take (i := 14) (v := ?_) (oper_at (r := _) rfl) (by kernel_rfl) (by kernel_rfl) (by kernel_rfl) (fun _ _ _ h => h) (Or.inl ⟨by rfl, ?_⟩) (by assumption) ?_
            rotate_left
            · intro w hSw; try dsimp only at hSw
              go_simp
              try with_reducible rfl
            try simp only [Act.put, List.setIfInBounds_toArray, List.set_cons_zero, List.set_cons_succ]
            refine wpAnyH_take (i := 15) (v := ?_) (oper_at (r := _) rfl) (by kernel_rfl) (by kernel_rfl) (by kernel_rfl) (fun _ _ _ h => h) (Or.inl ⟨by rfl, ?_⟩) (by assumption) ?_
            rotate_left
            · intro w hSw; try dsimp only at hSw
              go_simp
              try with_reducible rfl
            try simp only [Act.put, List.setIfInBounds_toArray, List.set_cons_zero, List.set_cons_succ]
            refine wpAnyH_take (i := 16) (v := ?_) (oper_at (r := _) rfl) (by kernel_rfl) (by kernel_rfl) (by kernel_rfl) (fun _ _ _ h => h) (Or.inl ⟨by rfl, ?_⟩) (by assumption) ?_
            rotate_left
            · intro w hSw; try dsimp only at hSw
              go_simp
              try with_reducible rfl
            try simp only [Act.put, List.setIfInBounds_toArray, List.set_cons_zero, List.set_cons_succ]
            refine wpAnyH_take (i := 17) (v := ?_) (oper_at (r := _) rfl) (by kernel_rfl) (by kernel_rfl) (by kernel_rfl) (fun _ _ _ h => h) (Or.inl ⟨by rfl, ?_⟩) (by assumption) ?_
            rotate_left
            · intro w hSw; try dsimp only at hSw
              go_simp
              try with_reducible rfl
            try simp only [Act.put, List.setIfInBounds_toArray, List.set_cons_zero, List.set_cons_succ]
            refine wpAnyH_ready (rs := [19]) (by kernel_rfl) (by simp) ?_
            refine AllReadyH.cons (oper_at (r := _) rfl) (fun K hK => ?_) AllReadyH.nil
            obtain ⟨gy, hg⟩ : ∃ g, g = W63.heap.size := ⟨_, rfl⟩
            have lgy : wd.heap.size ≤ gy := by rw [hg]; exact WD_W63.out.size
            have ngygx : gx ≠ gy := by have := BG_W63.out.lt; omega
            have ngxgy : gy ≠ gx := Ne.symm ngygx
            have hx : BX gy (.slice none 0 0) (.slice none 0 0) 30 (W63.alloc (.cells #[.slice none 0 0, .slice none 0 0] 30)) := by rw [hg]; exact heap_alloc_new _ _
            have hb : Below W63.heap.size W63 (W63.alloc (.cells #[.slice none 0 0, .slice none 0 0] 30)) := (Below.refl _ _).alloc (Nat.le_refl _) _
            have S_W64 := Lib.hid (S_W63.out.up hb)
            have WD_W64 := Lib.hid (WD_W63.out.trans (hb.mono WD_W63.out.size))
            have BG_W64 := Lib.hid (BG_W63.out.up hb)
            have GR_W64 := Lib.hid (GR_W63.out.up hb)
            clear S_W63 WD_W63 BG_W63 GR_W63
            have BM_W64 := Lib.hid hx
            clear hx hb
            go_simp
            refine hK.out _ _ (HMM.out _ S_W64.out) (fun _ => ?_)
            clear hK K
            try simp only [Act.put, List.setIfInBounds_toArray, List.set_cons_zero, List.set_cons_succ]
            generalize W63.alloc (.cells #[.slice none 0 0, .slice none 0 0] 30) = W64 at *
            try rw [← hg]
            clear hg
            refine wpAnyH_ready (rs := [20]) (by kernel_rfl) (by simp) ?_
            refine AllReadyH.cons (oper_at (r := _) rfl) (fun K hK => ?_) AllReadyH.nil
            have fr0 := BG_W64.out.free 0
            have fr1 := BG_W64.out.free 1
            obtain ⟨e0, e1⟩ := BG_W64.out.cells
            go_simp
            clear fr0 fr1 e0 e1
            have S_W65 := Lib.hid ((S_W64.out.far (p := ⟨gx, 0, none⟩) (by show w.heap.size + 4 ≤ gx; omega) (.slice Gn Q.ns.length gn)).far (p := ⟨gx, 1, none⟩) (by show w.heap.size + 4 ≤ gx; omega) (.slice Ge Q.es.length ge))
            have WD_W65 := Lib.hid ((WD_W64.out.setCell (p := ⟨gx, 0, none⟩) (by show wd.heap.size ≤ gx; omega) (.slice Gn Q.ns.length gn)).setCell (p := ⟨gx, 1, none⟩) (by show wd.heap.size ≤ gx; omega) (.slice Ge Q.es.length ge))
            have BG_W65 := Lib.hid (BG_W64.out.put (.slice Gn Q.ns.length gn) (.slice Ge Q.es.length ge))
            have GR_W65 := Lib.hid (grAt_set GR_W64.out BG_W64.out (.slice Gn Q.ns.length gn) (.slice Ge Q.es.length ge))
            have BM_W65 := Lib.hid (BM_W64.out.far ngxgy (.slice Gn Q.ns.length gn) (.slice Ge Q.es.length ge))
            clear S_W64 WD_W64 BG_W64 GR_W64 BM_W64
            refine hK.out _ _ (HMM.out _ S_W65.out) (fun _ => ?_)
            clear hK K
            try simp only [Act.put, List.setIfInBounds_toArray, List.set_cons_zero, List.set_cons_succ]
            generalize (W64.setCell ⟨gx, 0, none⟩ (.slice Gn Q.ns.length gn)).setCell ⟨gx, 1, none⟩ (.slice Ge Q.es.length ge) = W65 at *
            refine wpAnyH_ready (rs := [21]) (by kernel_rfl) (by simp) ?_
            refine AllReadyH.cons (oper_at (r := _) rfl) (fun K hK => ?_) AllReadyH.nil
            have fr0 := BM_W65.out.free 0
            have fr1 := BM_W65.out.free 1
            obtain ⟨e0, e1⟩ := BM_W65.out.cells
            go_simp
            clear fr0 fr1 e0 e1
            have S_W66 := Lib.hid ((S_W65.out.far (p := ⟨gy, 0, none⟩) (by show w.heap.size + 4 ≤ gy; omega) (.slice Kn kn.1 kn.2)).far (p := ⟨gy, 1, none⟩) (by show w.heap.size + 4 ≤ gy; omega) (.slice Ke ke.1 ke.2))
            have WD_W66 := Lib.hid ((WD_W65.out.setCell (p := ⟨gy, 0, none⟩) (by show wd.heap.size ≤ gy; omega) (.slice Kn kn.1 kn.2)).setCell (p := ⟨gy, 1, none⟩) (by show wd.heap.size ≤ gy; omega) (.slice Ke ke.1 ke.2))
            have BG_W66 := Lib.hid (BG_W65.out.far ngygx (.slice Kn kn.1 kn.2) (.slice Ke ke.1 ke.2))
            have GR_W66 := Lib.hid (grAt_set GR_W65.out BM_W65.out (.slice Kn kn.1 kn.2) (.slice Ke ke.1 ke.2))
            have BM_W66 := Lib.hid (BM_W65.out.put (.slice Kn kn.1 kn.2) (.slice Ke ke.1 ke.2))
            clear S_W65 WD_W65 BG_W65 GR_W65 BM_W65
            refine hK.out _ _ (HMM.out _ S_W66.out) (fun _ => ?_)
            clear hK K
            try simp only [Act.put, List.setIfInBounds_toArray, List.set_cons_zero, List.set_cons_succ]
            generalize (W65.setCell ⟨gy, 0, none⟩ (.slice Kn kn.1 kn.2)).setCell ⟨gy, 1, none⟩ (.slice Ke ke.1 ke.2) = W66 at *
            refine wpAnyH_take (i := 22) (v := ?_) (oper_at (r := _) rfl) (by kernel_rfl) (by kernel_rfl) (by kernel_rfl) (fun _ _ _ h => h) (Or.inl ⟨by rfl, ?_⟩) (by assumption) ?_
            rotate_left
            · intro w hSw; try dsimp only at hSw
              go_simp
              try with_reducible rfl
            try simp only [Act.put, List.setIfInBounds_toArray, List.set_cons_zero, List.set_cons_succ]
            refine wpAnyH_done (by kernel_rfl) ?_ _
            refine NoPanic.normal ?_
            go_wp2_with fail
            go_meet
            exact ⟨gx, Gn, gn, Ge, ge, rfl, Nat.le_trans lsr lgx, BG_W66.out, GR_W66.out, S_W66.out⟩
          · skip
            obtain ⟨gy, hg⟩ : ∃ g, g = W62.heap.size := ⟨_, rfl⟩
            have lgy : wd.heap.size ≤ gy := by rw [hg]; exact WD_W62.out.size
            have ngygx : gx ≠ gy := by have := BG_W62.out.lt; omega
            have ngxgy : gy ≠ gx := Ne.symm ngygx
            have hx : BX gy (.slice none 0 0) (.slice none 0 0) 30 (W62.alloc (.cells #[.slice none 0 0, .slice none 0 0] 30)) := by rw [hg]; exact heap_alloc_new _ _
            have hb : Below W62.heap.size W62 (W62.alloc (.cells #[.slice none 0 0, .slice none 0 0] 30)) := (Below.refl _ _).alloc (Nat.le_refl _) _
            have S_W67 := Lib.hid (S_W62.out.up hb)
            have WD_W67 := Lib.hid (WD_W62.out.trans (hb.mono WD_W62.out.size))
            have BG_W67 := Lib.hid (BG_W62.out.up hb)
            have MA_W67 := Lib.hid (Reads.up MA_W62.out hb)
            have MB_W67 := Lib.hid (Reads.up MB_W62.out hb)
            clear S_W62 WD_W62 BG_W62 MA_W62 MB_W62
            have BM_W67 := Lib.hid hx
            clear hx hb
            go_simp
            refine hK.out _ _ (HMM.out _ S_W67.out) (fun _ => ?_)
            clear hK K
            try simp only [Act.put, List.setIfInBounds_toArray, List.set_cons_zero, List.set_cons_succ]
            generalize W62.alloc (.cells #[.slice none 0 0, .slice none 0 0] 30) = W67 at *
            try rw [← hg]
            clear hg
            refine wpAnyH_ready (rs := [13]) (by kernel_rfl) (by simp) ?_
            refine AllReadyH.cons (oper_at (r := _) rfl) (fun K hK => ?_) AllReadyH.nil
            go_simp
            refine (HRM2.out X1 x1 X2 x2 _ S_W67.out.1 MA_W67.out MB_W67.out).mono ?_
            rintro e W68 ⟨⟨Gn, gn, Ge, ge, Kn, kn, Ke, ke, rfl, r1⟩, hb⟩
            have S_W68 := Lib.hid (S_W67.out.up hb)
            have WD_W68 := Lib.hid (WD_W67.out.trans (hb.mono WD_W67.out.size))
            have BG_W68 := Lib.hid (BG_W67.out.up hb)
            have MA_W68 := Lib.hid (Reads.up MA_W67.out hb)
            have MB_W68 := Lib.hid (Reads.up MB_W67.out hb)
            have BM_W68 := Lib.hid (BM_W67.out.up hb)
            clear S_W67 WD_W67 BG_W67 MA_W67 MB_W67 BM_W67
            have GR_W68 := Lib.hid r1
            clear hb r1
            go_wp2_with fail
            refine hK.out _ _ (HMM.out _ S_W68.out) (fun _ => ?_)
            clear hK K
            try simp only [Act.put, List.setIfInBounds_toArray, List.set_cons_zero, List.set_cons_succ]
            refine wpAnyH_take (i := 14) (v := ?_) (oper_at (r := _) rfl) (by kernel_rfl) (by kernel_rfl) (by kernel_rfl) (fun _ _ _ h => h) (Or.inl ⟨by rfl, ?_⟩) (by assumption) ?_
            rotate_left
            · intro w hSw; try dsimp only at hSw
              go_simp
              try with_reducible rfl
            try simp only [Act.put, List.setIfInBounds_toArray, List.set_cons_zero, List.set_cons_succ]
            refine wpAnyH_take (i := 15) (v := ?_) (oper_at (r := _) rfl) (by kernel_rfl) (by kernel_rfl) (by kernel_rfl) (fun _ _ _ h => h) (Or.inl ⟨by rfl, ?_⟩) (by assumption) ?_
            rotate_left
            · intro w hSw; try dsimp only at hSw
              go_simp
              try with_reducible rfl
            try simp only [Act.put, List.setIfInBounds_toArray, List.set_cons_zero, List.set_cons_succ]
            refine wpAnyH_take (i := 16) (v := ?_) (oper_at (r := _) rfl) (by kernel_rfl) (by kernel_rfl) (by kernel_rfl) (fun _ _ _ h => h) (Or.inl ⟨by rfl, ?_⟩) (by assumption) ?_
            rotate_left
            · intro w hSw; try dsimp only at hSw
              go_simp
              try with_reducible rfl
            try simp only [Act.put, List.setIfInBounds_toArray, List.set_cons_zero, List.set_cons_succ]
            refine wpAnyH_take (i := 17) (v := ?_) (oper_at (r := _) rfl) (by kernel_rfl) (by kernel_rfl) (by kernel_rfl) (fun _ _ _ h => h) (Or.inl ⟨by rfl, ?_⟩) (by assumption) ?_
            rotate_left
            · intro w hSw; try dsimp only at hSw
              go_simp
              try with_reducible rfl
            try simp only [Act.put, List.setIfInBounds_toArray, List.set_cons_zero, List.set_cons_succ]
            refine wpAnyH_ready (rs := [20]) (by kernel_rfl) (by simp) ?_
            refine AllReadyH.cons (oper_at (r := _) rfl) (fun K hK => ?_) AllReadyH.nil
            have fr0 := BG_W68.out.free 0
            have fr1 := BG_W68.out.free 1
            obtain ⟨e0, e1⟩ := BG_W68.out.cells
            go_simp
            clear fr0 fr1 e0 e1
            have S_W69 := Lib.hid ((S_W68.out.far (p := ⟨gx, 0, none⟩) (by show w.heap.size + 4 ≤ gx; omega) (.slice Gn Q.ns.length gn)).far (p := ⟨gx, 1, none⟩) (by show w.heap.size + 4 ≤ gx; omega) (.slice Ge Q.es.length ge))
            have WD_W69 := Lib.hid ((WD_W68.out.setCell (p := ⟨gx, 0, none⟩) (by show wd.heap.size ≤ gx; omega) (.slice Gn Q.ns.length gn)).setCell (p := ⟨gx, 1, none⟩) (by show wd.heap.size ≤ gx; omega) (.slice Ge Q.es.length ge))
            have BG_W69 := Lib.hid (BG_W68.out.put (.slice Gn Q.ns.length gn) (.slice Ge Q.es.length ge))
            have BM_W69 := Lib.hid (BM_W68.out.far ngxgy (.slice Gn Q.ns.length gn) (.slice Ge Q.es.length ge))
            have GR_W69 := Lib.hid (grAt_set GR_W68.out BG_W68.out (.slice Gn Q.ns.length gn) (.slice Ge Q.es.length ge))
            clear S_W68 WD_W68 BG_W68 BM_W68 GR_W68
            refine hK.out _ _ (HMM.out _ S_W69.out) (fun _ => ?_)
            clear hK K
            try simp only [Act.put, List.setIfInBounds_toArray, List.set_cons_zero, List.set_cons_succ]
            generalize (W68.setCell ⟨gx, 0, none⟩ (.slice Gn Q.ns.length gn)).setCell ⟨gx, 1, none⟩ (.slice Ge Q.es.length ge) = W69 at *
            refine wpAnyH_ready (rs := [21]) (by kernel_rfl) (by simp) ?_
            refine AllReadyH.cons (oper_at (r := _) rfl) (fun K hK => ?_) AllReadyH.nil
            have fr0 := BM_W69.out.free 0
            have fr1 := BM_W69.out.free 1
            obtain ⟨e0, e1⟩ := BM_W69.out.cells
            go_simp
            clear fr0 fr1 e0 e1
            have S_W70 := Lib.hid ((S_W69.out.far (p := ⟨gy, 0, none⟩) (by show w.heap.size + 4 ≤ gy; omega) (.slice Kn kn.1 kn.2)).far (p := ⟨gy, 1, none⟩) (by show w.heap.size + 4 ≤ gy; omega) (.slice Ke ke.1 ke.2))
            have WD_W70 := Lib.hid ((WD_W69.out.setCell (p := ⟨gy, 0, none⟩) (by show wd.heap.size ≤ gy; omega) (.slice Kn kn.1 kn.2)).setCell (p := ⟨gy, 1, none⟩) (by show wd.heap.size ≤ gy; omega) (.slice Ke ke.1 ke.2))
            have BG_W70 := Lib.hid (BG_W69.out.far ngygx (.slice Kn kn.1 kn.2) (.slice Ke ke.1 ke.2))
            have BM_W70 := Lib.hid (BM_W69.out.put (.slice Kn kn.1 kn.2) (.slice Ke ke.1 ke.2))
            have GR_W70 := Lib.hid (grAt_set GR_W69.out BM_W69.out (.slice Kn kn.1 kn.2) (.slice Ke ke.1 ke.2))
            clear S_W69 WD_W69 BG_W69 BM_W69 GR_W69
            refine hK.out _ _ (HMM.out _ S_W70.out) (fun _ => ?_)
            clear hK K
            try simp only [Act.put, List.setIfInBounds_toArray, List.set_cons_zero, List.set_cons_succ]
            generalize (W69.setCell ⟨gy, 0, none⟩ (.slice Kn kn.1 kn.2)).setCell ⟨gy, 1, none⟩ (.slice Ke ke.1 ke.2) = W70 at *
            refine wpAnyH_take (i := 22) (v := ?_) (oper_at (r := _) rfl) (by kernel_rfl) (by kernel_rfl) (by kernel_rfl) (fun _ _ _ h => h) (Or.inl ⟨by rfl, ?_⟩) (by assumption) ?_
            rotate_left
            · intro w hSw; try dsimp only at hSw
              go_simp
              try with_reducible rfl
            try simp only [Act.put, List.setIfInBounds_toArray, List.set_cons_zero, List.set_cons_succ]
            refine wpAnyH_done (by kernel_rfl) ?_ _
            refine NoPanic.normal ?_
            go_wp2_with fail
            go_meet
            exact ⟨gx, Gn, gn, Ge, ge, rfl, Nat.le_trans lsr lgx, BG_W70.out, GR_W70.out, S_W70.out⟩
        · skip
          obtain ⟨gy, hg⟩ : ∃ g, g = W61.heap.size := ⟨_, rfl⟩
          have lgy : wd.heap.size ≤ gy := by rw [hg]; exact WD_W61.out.size
          have ngygx : gx ≠ gy := by have := BG_W61.out.lt; omega
          have ngxgy : gy ≠ gx := Ne.symm ngygx
          have hx : BX gy (.slice none 0 0) (.slice none 0 0) 30 (W61.alloc (.cells #[.slice none 0 0, .slice none 0 0] 30)) := by rw [hg]; exact heap_alloc_new _ _
          have hb : Below W61.heap.size W61 (W61.alloc (.cells #[.slice none 0 0, .slice none 0 0] 30)) := (Below.refl _ _).alloc (Nat.le_refl _) _
          have S_W71 := Lib.hid (S_W61.out.up hb)
          have WD_W71 := Lib.hid (WD_W61.out.trans (hb.mono WD_W61.out.size))
          have BG_W71 := Lib.hid (BG_W61.out.up hb)
          have MA_W71 := Lib.hid (Reads.up MA_W61.out hb)
          clear S_W61 WD_W61 BG_W61 MA_W61
          have BM_W71 := Lib.hid hx
          clear hx hb
          go_simp
          refine hK.out _ _ (HMM.out _ S_W71.out) (fun _ => ?_)
          clear hK K
          try simp only [Act.put, List.setIfInBounds_toArray, List.set_cons_zero, List.set_cons_succ]
          generalize W61.alloc (.cells #[.slice none 0 0, .slice none 0 0] 30) = W71 at *
          try rw [← hg]
          clear hg
          refine wpAnyH_ready (rs := [12]) (by kernel_rfl) (by simp) ?_
          refine AllReadyH.cons (oper_at (r := _) rfl) (fun K hK => ?_) AllReadyH.nil
          go_simp
          refine (HMB2.out _ S_W71.out.1).mono ?_
          rintro e W72 ⟨⟨X2, x2, rfl, r1⟩, hb⟩
          have S_W72 := Lib.hid (S_W71.out.up hb)
          have WD_W72 := Lib.hid (WD_W71.out.trans (hb.mono WD_W71.out.size))
          have BG_W72 := Lib.hid (BG_W71.out.up hb)
          have MA_W72 := Lib.hid (Reads.up MA_W71.out hb)
          have BM_W72 := Lib.hid (BM_W71.out.up hb)
          clear S_W71 WD_W71 BG_W71 MA_W71 BM_W71
          have MB_W72 := Lib.hid r1
          clear hb r1
          go_wp2_with fail
          refine hK.out _ _ (HMM.out _ S_W72.out) (fun _ => ?_)
          clear hK K
          try simp only [Act.put, List.setIfInBounds_toArray, List.set_cons_zero, List.set_cons_succ]
          refine wpAnyH_ready (rs := [13]) (by kernel_rfl) (by simp) ?_
          refine AllReadyH.cons (oper_at (r := _) rfl) (fun K hK => ?_) AllReadyH.nil
          go_simp
          refine (HRM2.out X1 x1 X2 x2 _ S_W72.out.1 MA_W72.out MB_W72.out).mono ?_
          rintro e W73 ⟨⟨Gn, gn, Ge, ge, Kn, kn, Ke, ke, rfl, r1⟩, hb⟩
          have S_W73 := Lib.hid (S_W72.out.up hb)
          have WD_W73 := Lib.hid (WD_W72.out.trans (hb.mono WD_W72.out.size))
          have BG_W73 := Lib.hid (BG_W72.out.up hb)
          have MA_W73 := Lib.hid (Reads.up MA_W72.out hb)
          have BM_W73 := Lib.hid (BM_W72.out.up hb)
          have MB_W73 := Lib.hid (Reads.up MB_W72.out hb)
          clear S_W72 WD_W72 BG_W72 MA_W72 BM_W72 MB_W72
          have GR_W73 := Lib.hid r1
          clear hb r1
          go_wp2_with fail
          refine hK.out _ _ (HMM.out _ S_W73.out) (fun _ => ?_)
          clear hK K
          try simp only [Act.put, List.setIfInBounds_toArray, List.set_cons_zero, List.set_cons_succ]
          refine wpAnyH_take (i := 14) (v := ?_) (oper_at (r := _) rfl) (by kernel_rfl) (by kernel_rfl) (by kernel_rfl) (fun _ _ _ h => h) (Or.inl ⟨by rfl, ?_⟩) (by assumption) ?_
          rotate_left
          · intro w hSw; try dsimp only at hSw
            go_simp
            try with_reducible rfl
          try simp only [Act.put, List.setIfInBounds_toArray, List.set_cons_zero, List.set_cons_succ]
          refine wpAnyH_take (i := 15) (v := ?_) (oper_at (r := _) rfl) (by kernel_rfl) (by kernel_rfl) (by kernel_rfl) (fun _ _ _ h => h) (Or.inl ⟨by rfl, ?_⟩) (by assumption) ?_
          rotate_left
          · intro w hSw; try dsimp only at hSw
            go_simp
            try with_reducible rfl
          try simp only [Act.put, List.setIfInBounds_toArray, List.set_cons_zero, List.set_cons_succ]
          refine wpAnyH_take (i := 16) (v := ?_) (oper_at (r := _) rfl) (by kernel_rfl) (by kernel_rfl) (by kernel_rfl) (fun _ _ _ h => h) (Or.inl ⟨by rfl, ?_⟩) (by assumption) ?_
          rotate_left
          · intro w hSw; try dsimp only at hSw
            go_simp
            try with_reducible rfl
          try simp only [Act.put, List.setIfInBounds_toArray, List.set_cons_zero, List.set_cons_succ]
          refine wpAnyH_take (i := 17) (v := ?_) (oper_at (r := _) rfl) (by kernel_rfl) (by kernel_rfl) (by kernel_rfl) (fun _ _ _ h => h) (Or.inl ⟨by rfl, ?_⟩) (by assumption) ?_
          rotate_left
          · intro w hSw; try dsimp only at hSw
            go_simp
            try with_reducible rfl
          try simp only [Act.put, List.setIfInBounds_toArray, List.set_cons_zero, List.set_cons_succ]
          refine wpAnyH_ready (rs := [20]) (by kernel_rfl) (by simp) ?_
          refine AllReadyH.cons (oper_at (r := _) rfl) (fun K hK => ?_) AllReadyH.nil
          have fr0 := BG_W73.out.free 0
          have fr1 := BG_W73.out.free 1
          obtain ⟨e0, e1⟩ := BG_W73.out.cells
          go_simp
          clear fr0 fr1 e0 e1
          have S_W74 := Lib.hid ((S_W73.out.far (p := ⟨gx, 0, none⟩) (by show w.heap.size + 4 ≤ gx; omega) (.slice Gn Q.ns.length gn)).far (p := ⟨gx, 1, none⟩) (by show w.heap.size + 4 ≤ gx; omega) (.slice Ge Q.es.length ge))
          have WD_W74 := Lib.hid ((WD_W73.out.setCell (p := ⟨gx, 0, none⟩) (by show wd.heap.size ≤ gx; omega) (.slice Gn Q.ns.length gn)).setCell (p := ⟨gx, 1, none⟩) (by show wd.heap.size ≤ gx; omega) (.slice Ge Q.es.length ge))
          have BG_W74 := Lib.hid (BG_W73.out.put (.slice Gn Q.ns.length gn) (.slice Ge Q.es.length ge))
          have BM_W74 := Lib.hid (BM_W73.out.far ngxgy (.slice Gn Q.ns.length gn) (.slice Ge Q.es.length ge))
          have GR_W74 := Lib.hid (grAt_set GR_W73.out BG_W73.out (.slice Gn Q.ns.length gn) (.slice Ge Q.es.length ge))
          clear S_W73 WD_W73 BG_W73 BM_W73 GR_W73
          refine hK.out _ _ (HMM.out _ S_W74.out) (fun _ => ?_)
          clear hK K
          try simp only [Act.put, List.setIfInBounds_toArray, List.set_cons_zero, List.set_cons_succ]
          generalize (W73.setCell ⟨gx, 0, none⟩ (.slice Gn Q.ns.length gn)).setCell ⟨gx, 1, none⟩ (.slice Ge Q.es.length ge) = W74 at *
          refine wpAnyH_ready (rs := [21]) (by kernel_rfl) (by simp) ?_
          refine AllReadyH.cons (oper_at (r := _) rfl) (fun K hK => ?_) AllReadyH.nil
          have fr0 := BM_W74.out.free 0
          have fr1 := BM_W74.out.free 1
          obtain ⟨e0, e1⟩ := BM_W74.out.cells
          go_simp
          clear fr0 fr1 e0 e1
          have S_W75 := Lib.hid ((S_W74.out.far (p := ⟨gy, 0, none⟩) (by show w.heap.size + 4 ≤ gy; omega) (.slice Kn kn.1 kn.2)).far (p := ⟨gy, 1, none⟩) (by show w.heap.size + 4 ≤ gy; omega) (.slice Ke ke.1 ke.2))
          have WD_W75 := Lib.hid ((WD_W74.out.setCell (p := ⟨gy, 0, none⟩) (by show wd.heap.size ≤ gy; omega) (.slice Kn kn.1 kn.2)).setCell (p := ⟨gy, 1, none⟩) (by show wd.heap.size ≤ gy; omega) (.slice Ke ke.1 ke.2))
          have BG_W75 := Lib.hid (BG_W74.out.far ngygx (.slice Kn kn.1 kn.2) (.slice Ke ke.1 ke.2))
          have BM_W75 := Lib.hid (BM_W74.out.put (.slice Kn kn.1 kn.2) (.slice Ke ke.1 ke.2))
          have GR_W75 := Lib.hid (grAt_set GR_W74.out BM_W74.out (.slice Kn kn.1 kn.2) (.slice Ke ke.1 ke.2))
          clear S_W74 WD_W74 BG_W74 BM_W74 GR_W74
          refine hK.out _ _ (HMM.out _ S_W75.out) (fun _ => ?_)
          clear hK K
          try simp only [Act.put, List.setIfInBounds_toArray, List.set_cons_zero, List.set_cons_succ]
          generalize (W74.setCell ⟨gy, 0, none⟩ (.slice Kn kn.1 kn.2)).setCell ⟨gy, 1, none⟩ (.slice Ke ke.1 ke.2) = W75 at *
          refine wpAnyH_take (i := 22) (v := ?_) (oper_at (r := _) rfl) (by kernel_rfl) (by kernel_rfl) (by kernel_rfl) (fun _ _ _ h => h) (Or.inl ⟨by rfl, ?_⟩) (by assumption) ?_
          rotate_left
          · intro w hSw; try dsimp only at hSw
            go_simp
            try with_reducible rfl
          try simp only [Act.put, List.setIfInBounds_toArray, List.set_cons_zero, List.set_cons_succ]
          refine wpAnyH_done (by kernel_rfl) ?_ _
          refine NoPanic.normal ?_
          go_wp2_with fail
          go_meet
          exact ⟨gx, Gn, gn, Ge, ge, rfl, Nat.le_trans lsr lgx, BG_W75.out, GR_W75.out, S_W75.out⟩
      · skip
        obtain ⟨gy, hg⟩ : ∃ g, g = W60.heap.size := ⟨_, rfl⟩
        have lgy : wd.heap.size ≤ gy := by rw [hg]; exact WD_W60.out.size
        have ngygx : gx ≠ gy := by have := BG_W60.out.lt; omega
        have ngxgy : gy ≠ gx := Ne.symm ngygx
        have hx : BX gy (.slice none 0 0) (.slice none 0 0) 30 (W60.alloc (.cells #[.slice none 0 0, .slice none 0 0] 30)) := by rw [hg]; exact heap_alloc_new _ _
        have hb : Below W60.heap.size W60 (W60.alloc (.cells #[.slice none 0 0, .slice none 0 0] 30)) := (Below.refl _ _).alloc (Nat.le_refl _) _
        have S_W76 := Lib.hid (S_W60.out.up hb)
        have WD_W76 := Lib.hid (WD_W60.out.trans (hb.mono WD_W60.out.size))
        have BG_W76 := Lib.hid (BG_W60.out.up hb)
        clear S_W60 WD_W60 BG_W60
        have BM_W76 := Lib.hid hx
        clear hx hb
        go_simp
        refine hK.out _ _ (HMM.out _ S_W76.out) (fun _ => ?_)
        clear hK K
        try simp only [Act.put, List.setIfInBounds_toArray, List.set_cons_zero, List.set_cons_succ]
        generalize W60.alloc (.cells #[.slice none 0 0, .slice none 0 0] 30) = W76 at *
        try rw [← hg]
        clear hg
        refine wpAnyH_ready (rs := [6]) (by kernel_rfl) (by simp) ?_
        refine AllReadyH.cons (oper_at (r := _) rfl) (fun K hK => ?_) AllReadyH.nil
        go_simp
        refine (HMA2.out _ S_W76.out.1).mono ?_
        rintro e W77 ⟨⟨X1, x1, rfl, r1⟩, hb⟩
        have S_W77 := Lib.hid (S_W76.out.up hb)
        have WD_W77 := Lib.hid (WD_W76.out.trans (hb.mono WD_W76.out.size))
        have BG_W77 := Lib.hid (BG_W76.out.up hb)
        have BM_W77 := Lib.hid (BM_W76.out.up hb)
        clear S_W76 WD_W76 BG_W76 BM_W76
        have MA_W77 := Lib.hid r1
        clear hb r1
        go_wp2_with fail
        refine hK.out _ _ (HMM.out _ S_W77.out) (fun _ => ?_)
        clear hK K
        try simp only [Act.put, List.setIfInBounds_toArray, List.set_cons_zero, List.set_cons_succ]
        refine wpAnyH_ready (rs := [12]) (by kernel_rfl) (by simp) ?_
        refine AllReadyH.cons (oper_at (r := _) rfl) (fun K hK => ?_) AllReadyH.nil
        go_simp
        refine (HMB2.out _ S_W77.out.1).mono ?_
        rintro e W78 ⟨⟨X2, x2, rfl, r1⟩, hb⟩
        have S_W78 := Lib.hid (S_W77.out.up hb)
        have WD_W78 := Lib.hid (WD_W77.out.trans (hb.mono WD_W77.out.size))
        have BG_W78 := Lib.hid (BG_W77.out.up hb)
        have BM_W78 := Lib.hid (BM_W77.out.up hb)
        have MA_W78 := Lib.hid (Reads.up MA_W77.out hb)
        clear S_W77 WD_W77 BG_W77 BM_W77 MA_W77
        have MB_W78 := Lib.hid r1
        clear hb r1
        go_wp2_with fail
        refine hK.out _ _ (HMM.out _ S_W78.out) (fun _ => ?_)
        clear hK K
        try simp only [Act.put, List.setIfInBounds_toArray, List.set_cons_zero, List.set_cons_succ]
        refine wpAnyH_ready (rs := [13]) (by kernel_rfl) (by simp) ?_
        refine AllReadyH.cons (oper_at (r := _) rfl) (fun K hK => ?_) AllReadyH.nil
        go_simp
        refine (HRM2.out X1 x1 X2 x2 _ S_W78.out.1 MA_W78.out MB_W78.out).mono ?_
        rintro e W79 ⟨⟨Gn, gn, Ge, ge, Kn, kn, Ke, ke, rfl, r1⟩, hb⟩
        have S_W79 := Lib.hid (S_W78.out.up hb)
        have WD_W79 := Lib.hid (WD_W78.out.trans (hb.mono WD_W78.out.size))
        have BG_W79 := Lib.hid (BG_W78.out.up hb)
        have BM_W79 := Lib.hid (BM_W78.out.up hb)
        have MA_W79 := Lib.hid (Reads.up MA_W78.out hb)
        have MB_W79 := Lib.hid (Reads.up MB_W78.out hb)
        clear S_W78 WD_W78 BG_W78 BM_W78 MA_W78 MB_W78
        have GR_W79 := Lib.hid r1
        clear hb r1
        go_wp2_with fail
        refine hK.out _ _ (HMM.out _ S_W79.out) (fun _ => ?_)
        clear hK K
        try simp only [Act.put, List.setIfInBounds_toArray, List.set_cons_zero, List.set_cons_succ]
        refine wpAnyH_take (i := 14) (v := ?_) (oper_at (r := _) rfl) (by kernel_rfl) (by kernel_rfl) (by kernel_rfl) (fun _ _ _ h => h) (Or.inl ⟨by rfl, ?_⟩) (by assumption) ?_
        rotate_left
        · intro w hSw; try dsimp only at hSw
          go_simp
          try with_reducible rfl
        try simp only [Act.put, List.setIfInBounds_toArray, List.set_cons_zero, List.set_cons_succ]
        refine wpAnyH_take (i := 15) (v := ?_) (oper_at (r := _) rfl) (by kernel_rfl) (by kernel_rfl) (by kernel_rfl) (fun _ _ _ h => h) (Or.inl ⟨by rfl, ?_⟩) (by assumption) ?_
        rotate_left
        · intro w hSw; try dsimp only at hSw
          go_simp
          try with_reducible rfl
        try simp only [Act.put, List.setIfInBounds_toArray, List.set_cons_zero, List.set_cons_succ]
        refine wpAnyH_take (i := 16) (v := ?_) (oper_at (r := _) rfl) (by kernel_rfl) (by kernel_rfl) (by kernel_rfl) (fun _ _ _ h => h) (Or.inl ⟨by rfl, ?_⟩) (by assumption) ?_
        rotate_left
        · intro w hSw; try dsimp only at hSw
          go_simp
          try with_reducible rfl
        try simp only [Act.put, List.setIfInBounds_toArray, List.set_cons_zero, List.set_cons_succ]
        refine wpAnyH_take (i := 17) (v := ?_) (oper_at (r := _) rfl) (by kernel_rfl) (by kernel_rfl) (by kernel_rfl) (fun _ _ _ h => h) (Or.inl ⟨by rfl, ?_⟩) (by assumption) ?_
        rotate_left
        · intro w hSw; try dsimp only at hSw
          go_simp
          try with_reducible rfl
        try simp only [Act.put, List.setIfInBounds_toArray, List.set_cons_zero, List.set_cons_succ]
        refine wpAnyH_ready (rs := [20]) (by kernel_rfl) (by simp) ?_
        refine AllReadyH.cons (oper_at (r := _) rfl) (fun K hK => ?_) AllReadyH.nil
        have fr0 := BG_W79.out.free 0
        have fr1 := BG_W79.out.free 1
        obtain ⟨e0, e1⟩ := BG_W79.out.cells
        go_simp
        clear fr0 fr1 e0 e1
        have S_W80 := Lib.hid ((S_W79.out.far (p := ⟨gx, 0, none⟩) (by show w.heap.size + 4 ≤ gx; omega) (.slice Gn Q.ns.length gn)).far (p := ⟨gx, 1, none⟩) (by show w.heap.size + 4 ≤ gx; omega) (.slice Ge Q.es.length ge))
        have WD_W80 := Lib.hid ((WD_W79.out.setCell (p := ⟨gx, 0, none⟩) (by show wd.heap.size ≤ gx; omega) (.slice Gn Q.ns.length gn)).setCell (p := ⟨gx, 1, none⟩) (by show wd.heap.size ≤ gx; omega) (.slice Ge Q.es.length ge))
        have BG_W80 := Lib.hid (BG_W79.out.put (.slice Gn Q.ns.length gn) (.slice Ge Q.es.length ge))
        have BM_W80 := Lib.hid (BM_W79.out.far ngxgy (.slice Gn Q.ns.length gn) (.slice Ge Q.es.length ge))
        have GR_W80 := Lib.hid (grAt_set GR_W79.out BG_W79.out (.slice Gn Q.ns.length gn) (.slice Ge Q.es.length ge))
        clear S_W79 WD_W79 BG_W79 BM_W79 GR_W79
        refine hK.out _ _ (HMM.out _ S_W80.out) (fun _ => ?_)
        clear hK K
        try simp only [Act.put, List.setIfInBounds_toArray, List.set_cons_zero, List.set_cons_succ]
        generalize (W79.setCell ⟨gx, 0, none⟩ (.slice Gn Q.ns.length gn)).setCell ⟨gx, 1, none⟩ (.slice Ge Q.es.length ge) = W80 at *
        refine wpAnyH_ready (rs := [21]) (by kernel_rfl) (by simp) ?_
        refine AllReadyH.cons (oper_at (r := _) rfl) (fun K hK => ?_) AllReadyH.nil
        have fr0 := BM_W80.out.free 0
        have fr1 := BM_W80.out.free 1
        obtain ⟨e0, e1⟩ := BM_W80.out.cells
        go_simp
        clear fr0 fr1 e0 e1
        have S_W81 := Lib.hid ((S_W80.out.far (p := ⟨gy, 0, none⟩) (by show w.heap.size + 4 ≤ gy; omega) (.slice Kn kn.1 kn.2)).far (p := ⟨gy, 1, none⟩) (by show w.heap.size + 4 ≤ gy; omega) (.slice Ke ke.1 ke.2))
        have WD_W81 := Lib.hid ((WD_W80.out.setCell (p := ⟨gy, 0, none⟩) (by show wd.heap.size ≤ gy; omega) (.slice Kn kn.1 kn.2)).setCell (p := ⟨gy, 1, none⟩) (by show wd.heap.size ≤ gy; omega) (.slice Ke ke.1 ke.2))
        have BG_W81 := Lib.hid (BG_W80.out.far ngygx (.slice Kn kn.1 kn.2) (.slice Ke ke.1 ke.2))
        have BM_W81 := Lib.hid (BM_W80.out.put (.slice Kn kn.1 kn.2) (.slice Ke ke.1 ke.2))
        have GR_W81 := Lib.hid (grAt_set GR_W80.out BM_W80.out (.slice Kn kn.1 kn.2) (.slice Ke ke.1 ke.2))
        clear S_W80 WD_W80 BG_W80 BM_W80 GR_W80
        refine hK.out _ _ (HMM.out _ S_W81.out) (fun _ => ?_)
        clear hK K
        try simp only [Act.put, List.setIfInBounds_toArray, List.set_cons_zero, List.set_cons_succ]
        generalize (W80.setCell ⟨gy, 0, none⟩ (.slice Kn kn.1 kn.2)).setCell ⟨gy, 1, none⟩ (.slice Ke ke.1 ke.2) = W81 at *
        refine wpAnyH_take (i := 22) (v := ?_) (oper_at (r := _) rfl) (by kernel_rfl) (by kernel_rfl) (by kernel_rfl) (fun _ _ _ h => h) (Or.inl ⟨by rfl, ?_⟩) (by assumption) ?_
        rotate_left
        · intro w hSw; try dsimp only at hSw
          go_simp
          try with_reducible rfl
        try simp only [Act.put, List.setIfInBounds_toArray, List.set_cons_zero, List.set_cons_succ]
        refine wpAnyH_done (by kernel_rfl) ?_ _
        refine NoPanic.normal ?_
        go_wp2_with fail
        go_meet
        exact ⟨gx, Gn, gn, Ge, ge, rfl, Nat.le_trans lsr lgx, BG_W81.out, GR_W81.out, S_W81.out⟩
    · skip
      obtain ⟨gy, hg⟩ : ∃ g, g = wd.heap.size := ⟨_, rfl⟩
      have lgy : wd.heap.size ≤ gy := by rw [hg]; exact WD_wd.out.size
      have hx : BX gy (.slice none 0 0) (.slice none 0 0) 30 (wd.alloc (.cells #[.slice none 0 0, .slice none 0 0] 30)) := by rw [hg]; exact heap_alloc_new _ _
      have hb : Below wd.heap.size wd (wd.alloc (.cells #[.slice none 0 0, .slice none 0 0] 30)) := (Below.refl _ _).alloc (Nat.le_refl _) _
      have S_W82 := Lib.hid (S_wd.out.up hb)
      have WD_W82 := Lib.hid (WD_wd.out.trans (hb.mono WD_wd.out.size))
      clear S_wd WD_wd
      have BM_W82 := Lib.hid hx
      clear hx hb
      go_simp
      refine hK.out _ _ (HMM.out _ S_W82.out) (fun _ => ?_)
      clear hK K
      try simp only [Act.put, List.setIfInBounds_toArray, List.set_cons_zero, List.set_cons_succ]
      generalize wd.alloc (.cells #[.slice none 0 0, .slice none 0 0] 30) = W82 at *
      try rw [← hg]
      clear hg
      refine wpAnyH_ready (rs := [6, 18]) (by kernel_rfl) (by simp) ?_
      refine (AllReadyH.cons (oper_at (r := _) rfl) (fun K hK => ?_) (AllReadyH.cons (oper_at (r := _) rfl) (fun K hK => ?_) AllReadyH.nil))
      · skip
        go_simp
        refine (HMA2.out _ S_W82.out.1).mono ?_
        rintro e W83 ⟨⟨X1, x1, rfl, r1⟩, hb⟩
        have S_W83 := Lib.hid (S_W82.out.up hb)
        have WD_W83 := Lib.hid (WD_W82.out.trans (hb.mono WD_W82.out.size))
        have BM_W83 := Lib.hid (BM_W82.out.up hb)
        clear S_W82 WD_W82 BM_W82
        have MA_W83 := Lib.hid r1
        clear hb r1
        go_wp2_with fail
        refine hK.out _ _ (HMM.out _ S_W83.out) (fun _ => ?_)
        clear hK K
        try simp only [Act.put, List.setIfInBounds_toArray, List.set_cons_zero, List.set_cons_succ]
        refine wpAnyH_ready (rs := [12, 18]) (by kernel_rfl) (by simp) ?_
        refine (AllReadyH.cons (oper_at (r := _) rfl) (fun K hK => ?_) (AllReadyH.cons (oper_at (r := _) rfl) (fun K hK => ?_) AllReadyH.nil))
        · skip
          go_simp
          refine (HMB2.out _ S_W83.out.1).mono ?_
          rintro e W84 ⟨⟨X2, x2, rfl, r1⟩, hb⟩
          have S_W84 := Lib.hid (S_W83.out.up hb)
          have WD_W84 := Lib.hid (WD_W83.out.trans (hb.mono WD_W83.out.size))
          have BM_W84 := Lib.hid (BM_W83.out.up hb)
          have MA_W84 := Lib.hid (Reads.up MA_W83.out hb)
          clear S_W83 WD_W83 BM_W83 MA_W83
          have MB_W84 := Lib.hid r1
          clear hb r1
          go_wp2_with fail
          refine hK.out _ _ (HMM.out _ S_W84.out) (fun _ => ?_)
          clear hK K
          try simp only [Act.put, List.setIfInBounds_toArray, List.set_cons_zero, List.set_cons_succ]
          refine wpAnyH_ready (rs := [13, 18]) (by kernel_rfl) (by simp) ?_
          refine (AllReadyH.cons (oper_at (r := _) rfl) (fun K hK => ?_) (AllReadyH.cons (oper_at (r := _) rfl) (fun K hK => ?_) AllReadyH.nil))
          · skip
            go_simp
            refine (HRM2.out X1 x1 X2 x2 _ S_W84.out.1 MA_W84.out MB_W84.out).mono ?_
            rintro e W85 ⟨⟨Gn, gn, Ge, ge, Kn, kn, Ke, ke, rfl, r1⟩, hb⟩
            have S_W85 := Lib.hid (S_W84.out.up hb)
            have WD_W85 := Lib.hid (WD_W84.out.trans (hb.mono WD_W84.out.size))
            have BM_W85 := Lib.hid (BM_W84.out.up hb)
            have MA_W85 := Lib.hid (Reads.up MA_W84.out hb)
            have MB_W85 := Lib.hid (Reads.up MB_W84.out hb)
            clear S_W84 WD_W84 BM_W84 MA_W84 MB_W84
            have GR_W85 := Lib.hid r1
            clear hb r1
            go_wp2_with fail
            refine hK.out _ _ (HMM.out _ S_W85.out) (fun _ => ?_)
            clear hK K
            try simp only [Act.put, List.setIfInBounds_toArray, List.set_cons_zero, List.set_cons_succ]
            refine wpAnyH_take (i := 14) (v := ?_) (oper_at (r := _) rfl) (by kernel_rfl) (by kernel_rfl) (by kernel_rfl) (fun _ _ _ h => h) (Or.inl ⟨by rfl, ?_⟩) (by assumption) ?_
            rotate_left
            · intro w hSw; try dsimp only at hSw
              go_simp
              try with_reducible rfl
            try simp only [Act.put, List.setIfInBounds_toArray, List.set_cons_zero, List.set_cons_succ]
            refine wpAnyH_take (i := 15) (v := ?_) (oper_at (r := _) rfl) (by kernel_rfl) (by kernel_rfl) (by kernel_rfl) (fun _ _ _ h => h) (Or.inl ⟨by rfl, ?_⟩) (by assumption) ?_
            rotate_left
            · intro w hSw; try dsimp only at hSw
              go_simp
              try with_reducible rfl
            try simp only [Act.put, List.setIfInBounds_toArray, List.set_cons_zero, List.set_cons_succ]
            refine wpAnyH_take (i := 16) (v := ?_) (oper_at (r := _) rfl) (by kernel_rfl) (by kernel_rfl) (by kernel_rfl) (fun _ _ _ h => h) (Or.inl ⟨by rfl, ?_⟩) (by assumption) ?_
            rotate_left
            · intro w hSw; try dsimp only at hSw
              go_simp
              try with_reducible rfl
            try simp only [Act.put, List.setIfInBounds_toArray, List.set_cons_zero, List.set_cons_succ]
            refine wpAnyH_take (i := 17) (v := ?_) (oper_at (r := _) rfl) (by kernel_rfl) (by kernel_rfl) (by kernel_rfl) (fun _ _ _ h => h) (Or.inl ⟨by rfl, ?_⟩) (by assumption) ?_
            rotate_left
            · intro w hSw; try dsimp only at hSw
              go_simp
              try with_reducible rfl
            try simp only [Act.put, List.setIfInBounds_toArray, List.set_cons_zero, List.set_cons_succ]
            refine wpAnyH_ready (rs := [18]) (by kernel_rfl) (by simp) ?_
            refine AllReadyH.cons (oper_at (r := _) rfl) (fun K hK => ?_) AllReadyH.nil
            obtain ⟨gx, hg⟩ : ∃ g, g = W85.heap.size := ⟨_, rfl⟩
            have lgx : wd.heap.size ≤ gx := by rw [hg]; exact WD_W85.out.size
            have ngxgy : gy ≠ gx := by have := BM_W85.out.lt; omega
            have ngygx : gx ≠ gy := Ne.symm ngxgy
            have hx : BX gx (.slice none 0 0) (.slice none 0 0) 25 (W85.alloc (.cells #[.slice none 0 0, .slice none 0 0] 25)) := by rw [hg]; exact heap_alloc_new _ _
            have hb : Below W85.heap.size W85 (W85.alloc (.cells #[.slice none 0 0, .slice none 0 0] 25)) := (Below.refl _ _).alloc (Nat.le_refl _) _
            have S_W86 := Lib.hid (S_W85.out.up hb)
            have WD_W86 := Lib.hid (WD_W85.out.trans (hb.mono WD_W85.out.size))
            have BM_W86 := Lib.hid (BM_W85.out.up hb)
            have GR_W86 := Lib.hid (GR_W85.out.up hb)
            clear S_W85 WD_W85 BM_W85 GR_W85
            have BG_W86 := Lib.hid hx
            clear hx hb
            go_simp
            refine hK.out _ _ (HMM.out _ S_W86.out) (fun _ => ?_)
            clear hK K
            try simp only [Act.put, List.setIfInBounds_toArray, List.set_cons_zero, List.set_cons_succ]
            generalize W85.alloc (.cells #[.slice none 0 0, .slice none 0 0] 25) = W86 at *
            try rw [← hg]
            clear hg
            refine wpAnyH_ready (rs := [20]) (by kernel_rfl) (by simp) ?_
            refine AllReadyH.cons (oper_at (r := _) rfl) (fun K hK => ?_) AllReadyH.nil
            have fr0 := BG_W86.out.free 0
            have fr1 := BG_W86.out.free 1
            obtain ⟨e0, e1⟩ := BG_W86.out.cells
            go_simp
            clear fr0 fr1 e0 e1
            have S_W87 := Lib.hid ((S_W86.out.far (p := ⟨gx, 0, none⟩) (by show w.heap.size + 4 ≤ gx; omega) (.slice Gn Q.ns.length gn)).far (p := ⟨gx, 1, none⟩) (by show w.heap.size + 4 ≤ gx; omega) (.slice Ge Q.es.length ge))
            have WD_W87 := Lib.hid ((WD_W86.out.setCell (p := ⟨gx, 0, none⟩) (by show wd.heap.size ≤ gx; omega) (.slice Gn Q.ns.length gn)).setCell (p := ⟨gx, 1, none⟩) (by show wd.heap.size ≤ gx; omega) (.slice Ge Q.es.length ge))
            have BM_W87 := Lib.hid (BM_W86.out.far ngxgy (.slice Gn Q.ns.length gn) (.slice Ge Q.es.length ge))
            have GR_W87 := Lib.hid (grAt_set GR_W86.out BG_W86.out (.slice Gn Q.ns.length gn) (.slice Ge Q.es.length ge))
            have BG_W87 := Lib.hid (BG_W86.out.put (.slice Gn Q.ns.length gn) (.slice Ge Q.es.length ge))
            clear S_W86 WD_W86 BM_W86 GR_W86 BG_W86
            refine hK.out _ _ (HMM.out _ S_W87.out) (fun _ => ?_)
            clear hK K
            try simp only [Act.put, List.setIfInBounds_toArray, List.set_cons_zero, List.set_cons_succ]
            generalize (W86.setCell ⟨gx, 0, none⟩ (.slice Gn Q.ns.length gn)).setCell ⟨gx, 1, none⟩ (.slice Ge Q.es.length ge) = W87 at *
            refine wpAnyH_ready (rs := [21]) (by kernel_rfl) (by simp) ?_
            refine AllReadyH.cons (oper_at (r := _) rfl) (fun K hK => ?_) AllReadyH.nil
            have fr0 := BM_W87.out.free 0
            have fr1 := BM_W87.out.free 1
            obtain ⟨e0, e1⟩ := BM_W87.out.cells
            go_simp
            clear fr0 fr1 e0 e1
            have S_W88 := Lib.hid ((S_W87.out.far (p := ⟨gy, 0, none⟩) (by show w.heap.size + 4 ≤ gy; omega) (.slice Kn kn.1 kn.2)).far (p := ⟨gy, 1, none⟩) (by show w.heap.size + 4 ≤ gy; omega) (.slice Ke ke.1 ke.2))
            have WD_W88 := Lib.hid ((WD_W87.out.setCell (p := ⟨gy, 0, none⟩) (by show wd.heap.size ≤ gy; omega) (.slice Kn kn.1 kn.2)).setCell (p := ⟨gy, 1, none⟩) (by show wd.heap.size ≤ gy; omega) (.slice Ke ke.1 ke.2))
            have BM_W88 := Lib.hid (BM_W87.out.put (.slice Kn kn.1 kn.2) (.slice Ke ke.1 ke.2))
            have GR_W88 := Lib.hid (grAt_set GR_W87.out BM_W87.out (.slice Kn kn.1 kn.2) (.slice Ke ke.1 ke.2))
            have BG_W88 := Lib.hid (BG_W87.out.far ngygx (.slice Kn kn.1 kn.2) (.slice Ke ke.1 ke.2))
            clear S_W87 WD_W87 BM_W87 GR_W87 BG_W87
            refine hK.out _ _ (HMM.out _ S_W88.out) (fun _ => ?_)
            clear hK K
            try simp only [Act.put, List.setIfInBounds_toArray, List.set_cons_zero, List.set_cons_succ]
            generalize (W87.setCell ⟨gy, 0, none⟩ (.slice Kn kn.1 kn.2)).setCell ⟨gy, 1, none⟩ (.slice Ke ke.1 ke.2) = W88 at *
            refine wpAnyH_take (i := 22) (v := ?_) (oper_at (r := _) rfl) (by kernel_rfl) (by kernel_rfl) (by kernel_rfl) (fun _ _ _ h => h) (Or.inl ⟨by rfl, ?_⟩) (by assumption) ?_
            rotate_left
            · intro w hSw; try dsimp only at hSw
              go_simp
              try with_reducible rfl
            try simp only [Act.put, List.setIfInBounds_toArray, List.set_cons_zero, List.set_cons_succ]
            refine wpAnyH_done (by kernel_rfl) ?_ _
            refine NoPanic.normal ?_
            go_wp2_with fail
            go_meet
            exact ⟨gx, Gn, gn, Ge, ge, rfl, Nat.le_trans lsr lgx, BG_W88.out, GR_W88.out, S_W88.out⟩
          · skip
            obtain ⟨gx, hg⟩ : ∃ g, g = W84.heap.size := ⟨_, rfl⟩
            have lgx : wd.heap.size ≤ gx := by rw [hg]; exact WD_W84.out.size
            have ngxgy : gy ≠ gx := by have := BM_W84.out.lt; omega
            have ngygx : gx ≠ gy := Ne.symm ngxgy
            have hx : BX gx (.slice none 0 0) (.slice none 0 0) 25 (W84.alloc (.cells #[.slice none 0 0, .slice none 0 0] 25)) := by rw [hg]; exact heap_alloc_new _ _
            have hb : Below W84.heap.size W84 (W84.alloc (.cells #[.slice none 0 0, .slice none 0 0] 25)) := (Below.refl _ _).alloc (Nat.le_refl _) _
            have S_W89 := Lib.hid (S_W84.out.up hb)
            have WD_W89 := Lib.hid (WD_W84.out.trans (hb.mono WD_W84.out.size))
            have BM_W89 := Lib.hid (BM_W84.out.up hb)
            have MA_W89 := Lib.hid (Reads.up MA_W84.out hb)
            have MB_W89 := Lib.hid (Reads.up MB_W84.out hb)
            clear S_W84 WD_W84 BM_W84 MA_W84 MB_W84
            have BG_W89 := Lib.hid hx
            clear hx hb
            go_simp
            refine hK.out _ _ (HMM.out _ S_W89.out) (fun _ => ?_)
            clear hK K
            try simp only [Act.put, List.setIfInBounds_toArray, List.set_cons_zero, List.set_cons_succ]
            generalize W84.alloc (.cells #[.slice none 0 0, .slice none 0 0] 25) = W89 at *
            try rw [← hg]
            clear hg
            refine wpAnyH_ready (rs := [13]) (by kernel_rfl) (by simp) ?_
            refine AllReadyH.cons (oper_at (r := _) rfl) (fun K hK => ?_) AllReadyH.nil
            go_simp
            refine (HRM2.out X1 x1 X2 x2 _ S_W89.out.1 MA_W89.out MB_W89.out).mono ?_
            rintro e W90 ⟨⟨Gn, gn, Ge, ge, Kn, kn, Ke, ke, rfl, r1⟩, hb⟩
            have S_W90 := Lib.hid (S_W89.out.up hb)
            have WD_W90 := Lib.hid (WD_W89.out.trans (hb.mono WD_W89.out.size))
            have BM_W90 := Lib.hid (BM_W89.out.up hb)
            have MA_W90 := Lib.hid (Reads.up MA_W89.out hb)
            have MB_W90 := Lib.hid (Reads.up MB_W89.out hb)
            have BG_W90 := Lib.hid (BG_W89.out.up hb)
            clear S_W89 WD_W89 BM_W89 MA_W89 MB_W89 BG_W89
            have GR_W90 := Lib.hid r1
            clear hb r1
            go_wp2_with fail
            refine hK.out _ _ (HMM.out _ S_W90.out) (fun _ => ?_)
            clear hK K
            try simp only [Act.put, List.setIfInBounds_toArray, List.set_cons_zero, List.set_cons_succ]
            refine wpAnyH_take (i := 14) (v := ?_) (oper_at (r := _) rfl) (by kernel_rfl) (by kernel_rfl) (by kernel_rfl) (fun _ _ _ h => h) (Or.inl ⟨by rfl, ?_⟩) (by assumption) ?_
            rotate_left
            · intro w hSw; try dsimp only at hSw
              go_simp
              try with_reducible rfl
            try simp only [Act.put, List.setIfInBounds_toArray, List.set_cons_zero, List.set_cons_succ]
            refine wpAnyH_take (i := 15) (v := ?_) (oper_at (r := _) rfl) (by kernel_rfl) (by kernel_rfl) (by kernel_rfl) (fun _ _ _ h => h) (Or.inl ⟨by rfl, ?_⟩) (by assumption) ?_
            rotate_left
            · intro w hSw; try dsimp only at hSw
              go_simp
              try with_reducible rfl
            try simp only [Act.put, List.setIfInBounds_toArray, List.set_cons_zero, List.set_cons_succ]
            refine wpAnyH_take (i := 16) (v := ?_) (oper_at (r := _) rfl) (by kernel_rfl) (by kernel_rfl) (by kernel_rfl) (fun _ _ _ h => h) (Or.inl ⟨by rfl, ?_⟩) (by assumption) ?_
            rotate_left
            · intro w hSw; try dsimp only at hSw
              go_simp
              try with_reducible rfl
            try simp only [Act.put, List.setIfInBounds_toArray, List.set_cons_zero, List.set_cons_succ]
            refine wpAnyH_take (i := 17) (v := ?_) (oper_at (r := _) rfl) (by kernel_rfl) (by kernel_rfl) (by kernel_rfl) (fun _ _ _ h => h) (Or.inl ⟨by rfl, ?_⟩) (by assumption) ?_
            rotate_left
            · intro w hSw; try dsimp only at hSw
              go_simp
              try with_reducible rfl
            try simp only [Act.put, List.setIfInBounds_toArray, List.set_cons_zero, List.set_cons_succ]
            refine wpAnyH_ready (rs := [20]) (by kernel_rfl) (by simp) ?_
            refine AllReadyH.cons (oper_at (r := _) rfl) (fun K hK => ?_) AllReadyH.nil
            have fr0 := BG_W90.out.free 0
            have fr1 := BG_W90.out.free 1
            obtain ⟨e0, e1⟩ := BG_W90.out.cells
            go_simp
            clear fr0 fr1 e0 e1
            have S_W91 := Lib.hid ((S_W90.out.far (p := ⟨gx, 0, none⟩) (by show w.heap.size + 4 ≤ gx; omega) (.slice Gn Q.ns.length gn)).far (p := ⟨gx, 1, none⟩) (by show w.heap.size + 4 ≤ gx; omega) (.slice Ge Q.es.length ge))
            have WD_W91 := Lib.hid ((WD_W90.out.setCell (p := ⟨gx, 0, none⟩) (by show wd.heap.size ≤ gx; omega) (.slice Gn Q.ns.length gn)).setCell (p := ⟨gx, 1, none⟩) (by show wd.heap.size ≤ gx; omega) (.slice Ge Q.es.length ge))
            have BM_W91 := Lib.hid (BM_W90.out.far ngxgy (.slice Gn Q.ns.length gn) (.slice Ge Q.es.length ge))
            have BG_W91 := Lib.hid (BG_W90.out.put (.slice Gn Q.ns.length gn) (.slice Ge Q.es.length ge))
            have GR_W91 := Lib.hid (grAt_set GR_W90.out BG_W90.out (.slice Gn Q.ns.length gn) (.slice Ge Q.es.length ge))
            clear S_W90 WD_W90 BM_W90 BG_W90 GR_W90
            refine hK.out _ _ (HMM.out _ S_W91.out) (fun _ => ?_)
            clear hK K
            try simp only [Act.put, List.setIfInBounds_toArray, List.set_cons_zero, List.set_cons_succ]
            generalize (W90.setCell ⟨gx, 0, none⟩ (.slice Gn Q.ns.length gn)).setCell ⟨gx, 1, none⟩ (.slice Ge Q.es.length ge) = W91 at *
            refine wpAnyH_ready (rs := [21]) (by kernel_rfl) (by simp) ?_
            refine AllReadyH.cons (oper_at (r := _) rfl) (fun K hK => ?_) AllReadyH.nil
            have fr0 := BM_W91.out.free 0
            have fr1 := BM_W91.out.free 1
            obtain ⟨e0, e1⟩ := BM_W91.out.cells
            go_simp
            clear fr0 fr1 e0 e1
            have S_W92 := Lib.hid ((S_W91.out.far (p := ⟨gy, 0, none⟩) (by show w.heap.size + 4 ≤ gy; omega) (.slice Kn kn.1 kn.2)).far (p := ⟨gy, 1, none⟩) (by show w.heap.size + 4 ≤ gy; omega) (.slice Ke ke.1 ke.2))
            have WD_W92 := Lib.hid ((WD_W91.out.setCell (p := ⟨gy, 0, none⟩) (by show wd.heap.size ≤ gy; omega) (.slice Kn kn.1 kn.2)).setCell (p := ⟨gy, 1, none⟩) (by show wd.heap.size ≤ gy; omega) (.slice Ke ke.1 ke.2))
            have BM_W92 := Lib.hid (BM_W91.out.put (.slice Kn kn.1 kn.2) (.slice Ke ke.1 ke.2))
            have BG_W92 := Lib.hid (BG_W91.out.far ngygx (.slice Kn kn.1 kn.2) (.slice Ke ke.1 ke.2))
            have GR_W92 := Lib.hid (grAt_set GR_W91.out BM_W91.out (.slice Kn kn.1 kn.2) (.slice Ke ke.1 ke.2))
            clear S_W91 WD_W91 BM_W91 BG_W91 GR_W91
            refine hK.out _ _ (HMM.out _ S_W92.out) (fun _ => ?_)
            clear hK K
            try simp only [Act.put, List.setIfInBounds_toArray, List.set_cons_zero, List.set_cons_succ]
            generalize (W91.setCell ⟨gy, 0, none⟩ (.slice Kn kn.1 kn.2)).setCell ⟨gy, 1, none⟩ (.slice Ke ke.1 ke.2) = W92 at *
            refine wpAnyH_take (i := 22) (v := ?_) (oper_at (r := _) rfl) (by kernel_rfl) (by kernel_rfl) (by kernel_rfl) (fun _ _ _ h => h) (Or.inl ⟨by rfl, ?_⟩) (by assumption) ?_
            rotate_left
            · intro w hSw; try dsimp only at hSw
              go_simp
              try with_reducible rfl
            try simp only [Act.put, List.setIfInBounds_toArray, List.set_cons_zero, List.set_cons_succ]
            refine wpAnyH_done (by kernel_rfl) ?_ _
            refine NoPanic.normal ?_
            go_wp2_with fail
            go_meet
            exact ⟨gx, Gn, gn, Ge, ge, rfl, Nat.le_trans lsr lgx, BG_W92.out, GR_W92.out, S_W92.out⟩
        · skip
          obtain ⟨gx, hg⟩ : ∃ g, g = W83.heap.size := ⟨_, rfl⟩
          have lgx : wd.heap.size ≤ gx := by rw [hg]; exact WD_W83.out.size
          have ngxgy : gy ≠ gx := by have := BM_W83.out.lt; omega
          have ngygx : gx ≠ gy := Ne.symm ngxgy
          have hx : BX gx (.slice none 0 0) (.slice none 0 0) 25 (W83.alloc (.cells #[.slice none 0 0, .slice none 0 0] 25)) := by rw [hg]; exact heap_alloc_new _ _
          have hb : Below W83.heap.size W83 (W83.alloc (.cells #[.slice none 0 0, .slice none 0 0] 25)) := (Below.refl _ _).alloc (Nat.le_refl _) _
          have S_W93 := Lib.hid (S_W83.out.up hb)
          have WD_W93 := Lib.hid (WD_W83.out.trans (hb.mono WD_W83.out.size))
          have BM_W93 := Lib.hid (BM_W83.out.up hb)
          have MA_W93 := Lib.hid (Reads.up MA_W83.out hb)
          clear S_W83 WD_W83 BM_W83 MA_W83
          have BG_W93 := Lib.hid hx
          clear hx hb
          go_simp
          refine hK.out _ _ (HMM.out _ S_W93.out) (fun _ => ?_)
          clear hK K
          try simp only [Act.put, List.setIfInBounds_toArray, List.set_cons_zero, List.set_cons_succ]
          generalize W83.alloc (.cells #[.slice none 0 0, .slice none 0 0] 25) = W93 at *
          try rw [← hg]
          clear hg
          refine wpAnyH_ready (rs := [12]) (by kernel_rfl) (by simp) ?_
          refine AllReadyH.cons (oper_at (r := _) rfl) (fun K hK => ?_) AllReadyH.nil
          go_simp
          refine (HMB2.out _ S_W93.out.1).mono ?_
          rintro e W94 ⟨⟨X2, x2, rfl, r1⟩, hb⟩
          have S_W94 := Lib.hid (S_W93.out.up hb)
          have WD_W94 := Lib.hid (WD_W93.out.trans (hb.mono WD_W93.out.size))
          have BM_W94 := Lib.hid (BM_W93.out.up hb)
          have MA_W94 := Lib.hid (Reads.up MA_W93.out hb)
          have BG_W94 := Lib.hid (BG_W93.out.up hb)
          clear S_W93 WD_W93 BM_W93 MA_W93 BG_W93
          have MB_W94 := Lib.hid r1
          clear hb r1
          go_wp2_with fail
          refine hK.out _ _ (HMM.out _ S_W94.out) (fun _ => ?_)
          clear hK K
          try simp only [Act.put, List.setIfInBounds_toArray, List.set_cons_zero, List.set_cons_succ]
          refine wpAnyH_ready (rs := [13]) (by kernel_rfl) (by simp) ?_
          refine AllReadyH.cons (oper_at (r := _) rfl) (fun K hK => ?_) AllReadyH.nil
          go_simp
          refine (HRM2.out X1 x1 X2 x2 _ S_W94.out.1 MA_W94.out MB_W94.out).mono ?_
          rintro e W95 ⟨⟨Gn, gn, Ge, ge, Kn, kn, Ke, ke, rfl, r1⟩, hb⟩
          have S_W95 := Lib.hid (S_W94.out.up hb)
          have WD_W95 := Lib.hid (WD_W94.out.trans (hb.mono WD_W94.out.size))
          have BM_W95 := Lib.hid (BM_W94.out.up hb)
          have MA_W95 := Lib.hid (Reads.up MA_W94.out hb)
          have BG_W95 := Lib.hid (BG_W94.out.up hb)
          have MB_W95 := Lib.hid (Reads.up MB_W94.out hb)
          clear S_W94 WD_W94 BM_W94 MA_W94 BG_W94 MB_W94
          have GR_W95 := Lib.hid r1
          clear hb r1
          go_wp2_with fail
          refine hK.out _ _ (HMM.out _ S_W95.out) (fun _ => ?_)
          clear hK K
          try simp only [Act.put, List.setIfInBounds_toArray, List.set_cons_zero, List.set_cons_succ]
          refine wpAnyH_take (i := 14) (v := ?_) (oper_at (r := _) rfl) (by kernel_rfl) (by kernel_rfl) (by kernel_rfl) (fun _ _ _ h => h) (Or.inl ⟨by rfl, ?_⟩) (by assumption) ?_
          rotate_left
          · intro w hSw; try dsimp only at hSw
            go_simp
            try with_reducible rfl
          try simp only [Act.put, List.setIfInBounds_toArray, List.set_cons_zero, List.set_cons_succ]
          refine wpAnyH_take (i := 15) (v := ?_) (oper_at (r := _) rfl) (by kernel_rfl) (by kernel_rfl) (by kernel_rfl) (fun _ _ _ h => h) (Or.inl ⟨by rfl, ?_⟩) (by assumption) ?_
          rotate_left
          · intro w hSw; try dsimp only at hSw
            go_simp
            try with_reducible rfl
          try simp only [Act.put, List.setIfInBounds_toArray, List.set_cons_zero, List.set_cons_succ]
          refine wpAnyH_take (i := 16) (v := ?_) (oper_at (r := _) rfl) (by kernel_rfl) (by kernel_rfl) (by kernel_rfl) (fun _ _ _ h => h) (Or.inl ⟨by rfl, ?_⟩) (by assumption) ?_
          rotate_left
          · intro w hSw; try dsimp only at hSw
            go_simp
            try with_reducible rfl
          try simp only [Act.put, List.setIfInBounds_toArray, List.set_cons_zero, List.set_cons_succ]
          refine wpAnyH_take (i := 17) (v := ?_) (oper_at (r := _) rfl) (by kernel_rfl) (by kernel_rfl) (by kernel_rfl) (fun _ _ _ h => h) (Or.inl ⟨by rfl, ?_⟩) (by assumption) ?_
          rotate_left
          · intro w hSw; try dsimp only at hSw
            go_simp
            try with_reducible rfl
          try simp only [Act.put, List.setIfInBounds_toArray, List.set_cons_zero, List.set_cons_succ]
          refine wpAnyH_ready (rs := [20]) (by kernel_rfl) (by simp) ?_
          refine AllReadyH.cons (oper_at (r := _) rfl) (fun K hK => ?_) AllReadyH.nil
          have fr0 := BG_W95.out.free 0
          have fr1 := BG_W95.out.free 1
          obtain ⟨e0, e1⟩ := BG_W95.out.cells
          go_simp
          clear fr0 fr1 e0 e1
          have S_W96 := Lib.hid ((S_W95.out.far (p := ⟨gx, 0, none⟩) (by show w.heap.size + 4 ≤ gx; omega) (.slice Gn Q.ns.length gn)).far (p := ⟨gx, 1, none⟩) (by show w.heap.size + 4 ≤ gx; omega) (.slice Ge Q.es.length ge))
          have WD_W96 := Lib.hid ((WD_W95.out.setCell (p := ⟨gx, 0, none⟩) (by show wd.heap.size ≤ gx; omega) (.slice Gn Q.ns.length gn)).setCell (p := ⟨gx, 1, none⟩) (by show wd.heap.size ≤ gx; omega) (.slice Ge Q.es.length ge))
          have BM_W96 := Lib.hid (BM_W95.out.far ngxgy (.slice Gn Q.ns.length gn) (.slice Ge Q.es.length ge))
          have BG_W96 := Lib.hid (BG_W95.out.put (.slice Gn Q.ns.length gn) (.slice Ge Q.es.length ge))
          have GR_W96 := Lib.hid (grAt_set GR_W95.out BG_W95.out (.slice Gn Q.ns.length gn) (.slice Ge Q.es.length ge))
          clear S_W95 WD_W95 BM_W95 BG_W95 GR_W95
          refine hK.out _ _ (HMM.out _ S_W96.out) (fun _ => ?_)
          clear hK K
          try simp only [Act.put, List.setIfInBounds_toArray, List.set_cons_zero, List.set_cons_succ]
          generalize (W95.setCell ⟨gx, 0, none⟩ (.slice Gn Q.ns.length gn)).setCell ⟨gx, 1, none⟩ (.slice Ge Q.es.length ge) = W96 at *
          refine wpAnyH_ready (rs := [21]) (by kernel_rfl) (by simp) ?_
          refine AllReadyH.cons (oper_at (r := _) rfl) (fun K hK => ?_) AllReadyH.nil
          have fr0 := BM_W96.out.free 0
          have fr1 := BM_W96.out.free 1
          obtain ⟨e0, e1⟩ := BM_W96.out.cells
          go_simp
          clear fr0 fr1 e0 e1
          have S_W97 := Lib.hid ((S_W96.out.far (p := ⟨gy, 0, none⟩) (by show w.heap.size + 4 ≤ gy; omega) (.slice Kn kn.1 kn.2)).far (p := ⟨gy, 1, none⟩) (by show w.heap.size + 4 ≤ gy; omega) (.slice Ke ke.1 ke.2))
          have WD_W97 := Lib.hid ((WD_W96.out.setCell (p := ⟨gy, 0, none⟩) (by show wd.heap.size ≤ gy; omega) (.slice Kn kn.1 kn.2)).setCell (p := ⟨gy, 1, none⟩) (by show wd.heap.size ≤ gy; omega) (.slice Ke ke.1 ke.2))
          have BM_W97 := Lib.hid (BM_W96.out.put (.slice Kn kn.1 kn.2) (.slice Ke ke.1 ke.2))
          have BG_W97 := Lib.hid (BG_W96.out.far ngygx (.slice Kn kn.1 kn.2) (.slice Ke ke.1 ke.2))
          have GR_W97 := Lib.hid (grAt_set GR_W96.out BM_W96.out (.slice Kn kn.1 kn.2) (.slice Ke ke.1 ke.2))
          clear S_W96 WD_W96 BM_W96 BG_W96 GR_W96
          refine hK.out _ _ (HMM.out _ S_W97.out) (fun _ => ?_)
          clear hK K
          try simp only [Act.put, List.setIfInBounds_toArray, List.set_cons_zero, List.set_cons_succ]
          generalize (W96.setCell ⟨gy, 0, none⟩ (.slice Kn kn.1 kn.2)).setCell ⟨gy, 1, none⟩ (.slice Ke ke.1 ke.2) = W97 at *
          refine wpAnyH_take (i := 22) (v := ?_) (oper_at (r := _) rfl) (by kernel_rfl) (by kernel_rfl) (by kernel_rfl) (fun _ _ _ h => h) (Or.inl ⟨by rfl, ?_⟩) (by assumption) ?_
          rotate_left
          · intro w hSw; try dsimp only at hSw
            go_simp
            try with_reducible rfl
          try simp only [Act.put, List.setIfInBounds_toArray, List.set_cons_zero, List.set_cons_succ]
          refine wpAnyH_done (by kernel_rfl) ?_ _
          refine NoPanic.normal ?_
          go_wp2_with fail
          go_meet
          exact ⟨gx, Gn, gn, Ge, ge, rfl, Nat.le_trans lsr lgx, BG_W97.out, GR_W97.out, S_W97.out⟩
      · skip
        obtain ⟨gx, hg⟩ : ∃ g, g = W82.heap.size := ⟨_, rfl⟩
        have lgx : wd.heap.size ≤ gx := by rw [hg]; exact WD_W82.out.size
        have ngxgy : gy ≠ gx := by have := BM_W82.out.lt; omega
        have ngygx : gx ≠ gy := Ne.symm ngxgy
        have hx : BX gx (.slice none 0 0) (.slice none 0 0) 25 (W82.alloc (.cells #[.slice none 0 0, .slice none 0 0] 25)) := by rw [hg]; exact heap_alloc_new _ _
        have hb : Below W82.heap.size W82 (W82.alloc (.cells #[.slice none 0 0, .slice none 0 0] 25)) := (Below.refl _ _).alloc (Nat.le_refl _) _
        have S_W98 := Lib.hid (S_W82.out.up hb)
        have WD_W98 := Lib.hid (WD_W82.out.trans (hb.mono WD_W82.out.size))
        have BM_W98 := Lib.hid (BM_W82.out.up hb)
        clear S_W82 WD_W82 BM_W82
        have BG_W98 := Lib.hid hx
        clear hx hb
        go_simp
        refine hK.out _ _ (HMM.out _ S_W98.out) (fun _ => ?_)
        clear hK K
        try simp only [Act.put, List.setIfInBounds_toArray, List.set_cons_zero, List.set_cons_succ]
        generalize W82.alloc (.cells #[.slice none 0 0, .slice none 0 0] 25) = W98 at *
        try rw [← hg]
        clear hg
        refine wpAnyH_ready (rs := [6]) (by kernel_rfl) (by simp) ?_
        refine AllReadyH.cons (oper_at (r := _) rfl) (fun K hK => ?_) AllReadyH.nil
        go_simp
        refine (HMA2.out _ S_W98.out.1).mono ?_
        rintro e W99 ⟨⟨X1, x1, rfl, r1⟩, hb⟩
        have S_W99 := Lib.hid (S_W98.out.up hb)
        have WD_W99 := Lib.hid (WD_W98.out.trans (hb.mono WD_W98.out.size))
        have BM_W99 := Lib.hid (BM_W98.out.up hb)
        have BG_W99 := Lib.hid (BG_W98.out.up hb)
        clear S_W98 WD_W98 BM_W98 BG_W98
        have MA_W99 := Lib.hid r1
        clear hb r1
        go_wp2_with fail
        refine hK.out _ _ (HMM.out _ S_W99.out) (fun _ => ?_)
        clear hK K
        try simp only [Act.put, List.setIfInBounds_toArray, List.set_cons_zero, List.set_cons_succ]
        refine wpAnyH_ready (rs := [12]) (by kernel_rfl) (by simp) ?_
        refine AllReadyH.cons (oper_at (r := _) rfl) (fun K hK => ?_) AllReadyH.nil
        go_simp
        refine (HMB2.out _ S_W99.out.1).mono ?_
        rintro e W100 ⟨⟨X2, x2, rfl, r1⟩, hb⟩
        have S_W100 := Lib.hid (S_W99.out.up hb)
        have WD_W100 := Lib.hid (WD_W99.out.trans (hb.mono WD_W99.out.size))
        have BM_W100 := Lib.hid (BM_W99.out.up hb)
        have BG_W100 := Lib.hid (BG_W99.out.up hb)
        have MA_W100 := Lib.hid (Reads.up MA_W99.out hb)
        clear S_W99 WD_W99 BM_W99 BG_W99 MA_W99
        have MB_W100 := Lib.hid r1
        clear hb r1
        go_wp2_with fail
        refine hK.out _ _ (HMM.out _ S_W100.out) (fun _ => ?_)
        clear hK K
        try simp only [Act.put, List.setIfInBounds_toArray, List.set_cons_zero, List.set_cons_succ]
        refine wpAnyH_ready (rs := [13]) (by kernel_rfl) (by simp) ?_
        refine AllReadyH.cons (oper_at (r := _) rfl) (fun K hK => ?_) AllReadyH.nil
        go_simp
        refine (HRM2.out X1 x1 X2 x2 _ S_W100.out.1 MA_W100.out MB_W100.out).mono ?_
        rintro e W101 ⟨⟨Gn, gn, Ge, ge, Kn, kn, Ke, ke, rfl, r1⟩, hb⟩
        have S_W101 := Lib.hid (S_W100.out.up hb)
        have WD_W101 := Lib.hid (WD_W100.out.trans (hb.mono WD_W100.out.size))
        have BM_W101 := Lib.hid (BM_W100.out.up hb)
        have BG_W101 := Lib.hid (BG_W100.out.up hb)
        have MA_W101 := Lib.hid (Reads.up MA_W100.out hb)
        have MB_W101 := Lib.hid (Reads.up MB_W100.out hb)
        clear S_W100 WD_W100 BM_W100 BG_W100 MA_W100 MB_W100
        have GR_W101 := Lib.hid r1
        clear hb r1
        go_wp2_with fail
        refine hK.out _ _ (HMM.out _ S_W101.out) (fun _ => ?_)
        clear hK K
        try simp only [Act.put, List.setIfInBounds_toArray, List.set_cons_zero, List.set_cons_succ]
        refine wpAnyH_take (i := 14) (v := ?_) (oper_at (r := _) rfl) (by kernel_rfl) (by kernel_rfl) (by kernel_rfl) (fun _ _ _ h => h) (Or.inl ⟨by rfl, ?_⟩) (by assumption) ?_
        rotate_left
        · intro w hSw; try dsimp only at hSw
          go_simp
          try with_reducible rfl
        try simp only [Act.put, List.setIfInBounds_toArray, List.set_cons_zero, List.set_cons_succ]
        refine wpAnyH_take (i := 15) (v := ?_) (oper_at (r := _) rfl) (by kernel_rfl) (by kernel_rfl) (by kernel_rfl) (fun _ _ _ h => h) (Or.inl ⟨by rfl, ?_⟩) (by assumption) ?_
        rotate_left
        · intro w hSw; try dsimp only at hSw
          go_simp
          try with_reducible rfl
        try simp only [Act.put, List.setIfInBounds_toArray, List.set_cons_zero, List.set_cons_succ]
        refine wpAnyH_take (i := 16) (v := ?_) (oper_at (r := _) rfl) (by kernel_rfl) (by kernel_rfl) (by kernel_rfl) (fun _ _ _ h => h) (Or.inl ⟨by rfl, ?_⟩) (by assumption) ?_
        rotate_left
        · intro w hSw; try dsimp only at hSw
          go_simp
          try with_reducible rfl
        try simp only [Act.put, List.setIfInBounds_toArray, List.set_cons_zero, List.set_cons_succ]
        refine wpAnyH_take (i := 17) (v := ?_) (oper_at (r := _) rfl) (by kernel_rfl) (by kernel_rfl) (by kernel_rfl) (fun _ _ _ h => h) (Or.inl ⟨by rfl, ?_⟩) (by assumption) ?_
        rotate_left
        · intro w hSw; try dsimp only at hSw
          go_simp
          try with_reducible rfl
        try simp only [Act.put, List.setIfInBounds_toArray, List.set_cons_zero, List.set_cons_succ]
        refine wpAnyH_ready (rs := [20]) (by kernel_rfl) (by simp) ?_
        refine AllReadyH.cons (oper_at (r := _) rfl) (fun K hK => ?_) AllReadyH.nil
        have fr0 := BG_W101.out.free 0
        have fr1 := BG_W101.out.free 1
        obtain ⟨e0, e1⟩ := BG_W101.out.cells
        go_simp
        clear fr0 fr1 e0 e1
        have S_W102 := Lib.hid ((S_W101.out.far (p := ⟨gx, 0, none⟩) (by show w.heap.size + 4 ≤ gx; omega) (.slice Gn Q.ns.length gn)).far (p := ⟨gx, 1, none⟩) (by show w.heap.size + 4 ≤ gx; omega) (.slice Ge Q.es.length ge))
        have WD_W102 := Lib.hid ((WD_W101.out.setCell (p := ⟨gx, 0, none⟩) (by show wd.heap.size ≤ gx; omega) (.slice Gn Q.ns.length gn)).setCell (p := ⟨gx, 1, none⟩) (by show wd.heap.size ≤ gx; omega) (.slice Ge Q.es.length ge))
        have BM_W102 := Lib.hid (BM_W101.out.far ngxgy (.slice Gn Q.ns.length gn) (.slice Ge Q.es.length ge))
        have BG_W102 := Lib.hid (BG_W101.out.put (.slice Gn Q.ns.length gn) (.slice Ge Q.es.length ge))
        have GR_W102 := Lib.hid (grAt_set GR_W101.out BG_W101.out (.slice Gn Q.ns.length gn) (.slice Ge Q.es.length ge))
        clear S_W101 WD_W101 BM_W101 BG_W101 GR_W101
        refine hK.out _ _ (HMM.out _ S_W102.out) (fun _ => ?_)
        clear hK K
        try simp only [Act.put, List.setIfInBounds_toArray, List.set_cons_zero, List.set_cons_succ]
        generalize (W101.setCell ⟨gx, 0, none⟩ (.slice Gn Q.ns.length gn)).setCell ⟨gx, 1, none⟩ (.slice Ge Q.es.length ge) = W102 at *
        refine wpAnyH_ready (rs := [21]) (by kernel_rfl) (by simp) ?_
        refine AllReadyH.cons (oper_at (r := _) rfl) (fun K hK => ?_) AllReadyH.nil
        have fr0 := BM_W102.out.free 0
        have fr1 := BM_W102.out.free 1
        obtain ⟨e0, e1⟩ := BM_W102.out.cells
        go_simp
        clear fr0 fr1 e0 e1
        have S_W103 := Lib.hid ((S_W102.out.far (p := ⟨gy, 0, none⟩) (by show w.heap.size + 4 ≤ gy; omega) (.slice Kn kn.1 kn.2)).far (p := ⟨gy, 1, none⟩) (by show w.heap.size + 4 ≤ gy; omega) (.slice Ke ke.1 ke.2))
        have WD_W103 := Lib.hid ((WD_W102.out.setCell (p := ⟨gy, 0, none⟩) (by show wd.heap.size ≤ gy; omega) (.slice Kn kn.1 kn.2)).setCell (p := ⟨gy, 1, none⟩) (by show wd.heap.size ≤ gy; omega) (.slice Ke ke.1 ke.2))
        have BM_W103 := Lib.hid (BM_W102.out.put (.slice Kn kn.1 kn.2) (.slice Ke ke.1 ke.2))
        have BG_W103 := Lib.hid (BG_W102.out.far ngygx (.slice Kn kn.1 kn.2) (.slice Ke ke.1 ke.2))
        have GR_W103 := Lib.hid (grAt_set GR_W102.out BM_W102.out (.slice Kn kn.1 kn.2) (.slice Ke ke.1 ke.2))
        clear S_W102 WD_W102 BM_W102 BG_W102 GR_W102
        refine hK.out _ _ (HMM.out _ S_W103.out) (fun _ => ?_)
        clear hK K
        try simp only [Act.put, List.setIfInBounds_toArray, List.set_cons_zero, List.set_cons_succ]
        generalize (W102.setCell ⟨gy, 0, none⟩ (.slice Kn kn.1 kn.2)).setCell ⟨gy, 1, none⟩ (.slice Ke ke.1 ke.2) = W103 at *
        refine wpAnyH_take (i := 22) (v := ?_) (oper_at (r := _) rfl) (by kernel_rfl) (by kernel_rfl) (by kernel_rfl) (fun _ _ _ h => h) (Or.inl ⟨by rfl, ?_⟩) (by assumption) ?_
        rotate_left
        · intro w hSw; try dsimp only at hSw
          go_simp
          try with_reducible rfl
        try simp only [Act.put, List.setIfInBounds_toArray, List.set_cons_zero, List.set_cons_succ]
        refine wpAnyH_done (by kernel_rfl) ?_ _
        refine NoPanic.normal ?_
        go_wp2_with fail
        go_meet
        exact ⟨gx, Gn, gn, Ge, ge, rfl, Nat.le_trans lsr lgx, BG_W103.out, GR_W103.out, S_W103.out⟩
  case rest =>
    obtain ⟨g8, Gn, gn, Ge, ge, rfl, h8, hbx, hgr, hsr⟩ := hcut
    have HBX := Lib.hid hbx
    have HGR := Lib.hid hgr
    have HS := Lib.hid hsr
    have H8 := Lib.hid h8
    clear hbx hgr hsr h8 c0 c1 c2 c3 HS1
    go_wp2_with fail
    obtain ⟨c2, c3⟩ := HS.out.cell (i := 1) rfl
    obtain ⟨c8, c9⟩ := HBX.out.cells
    have HMM : Hid (∀ u, Below wc.drew.heap.size wc.drew u → (fun u : World => u.cell? ⟨w.heap.size + 1, 0, none⟩ = some (.slice Pn p.ns.length pn) ∧ u.cell? ⟨w.heap.size + 1, 1, none⟩ = some (.slice Pe p.es.length pe) ∧ u.cell? ⟨g8, 0, none⟩ = some (.slice Gn Q.ns.length gn) ∧ u.cell? ⟨g8, 1, none⟩ = some (.slice Ge Q.es.length ge)) u) := Lib.hid fun u hu => ⟨cell_up hu c2, cell_up hu c3, cell_up hu c8, cell_up hu c9⟩
    have HSD := Lib.hid (HS.out.up (below_d wc))
    have HGD := Lib.hid (HGR.out.up (below_d wc))
    have HBD := Lib.hid (HBX.out.up (below_d wc))
    have WD0 := Lib.hid (Below.refl wc.drew.heap.size wc.drew)
    have HWS : Hid (w.heap.size + 3 < wc.drew.heap.size) := Lib.hid (heap_lt (HSD.out.2 3 _ rfl))
    clear c2 c3 c8 c9 HS HGR HBX
    refine wp_region_noPanic ?_
    refine wp_region_held_drew (S := (fun u : World => u.cell? ⟨w.heap.size + 1, 0, none⟩ = some (.slice Pn p.ns.length pn) ∧ u.cell? ⟨w.heap.size + 1, 1, none⟩ = some (.slice Pe p.es.length pe) ∧ u.cell? ⟨g8, 0, none⟩ = some (.slice Gn Q.ns.length gn) ∧ u.cell? ⟨g8, 1, none⟩ = some (.slice Ge Q.es.length ge))) (by kernel_rfl) (HMM.out _ WD0.out) (fun hHeld => ?_)
    generalize wc.drew = wd at *
    refine wpAnyH_take (i := 0) (v := ?_) (oper_at (r := _) rfl) (by kernel_rfl) (by kernel_rfl) (by kernel_rfl) (fun _ _ _ h => h) (Or.inl ⟨by rfl, ?_⟩) (by assumption) ?_
    rotate_left
    · intro w hSw; try dsimp only at hSw
      go_simp
      try with_reducible rfl
    try simp only [Act.put, List.setIfInBounds_toArray, List.set_cons_zero, List.set_cons_succ]
    refine wpAnyH_take (i := 1) (v := ?_) (oper_at (r := _) rfl) (by kernel_rfl) (by kernel_rfl) (by kernel_rfl) (fun _ _ _ h => h) (Or.inl ⟨by rfl, ?_⟩) (by assumption) ?_
    rotate_left
    · intro w hSw; try dsimp only at hSw
      go_simp
      try with_reducible rfl
    try simp only [Act.put, List.setIfInBounds_toArray, List.set_cons_zero, List.set_cons_succ]
    refine wpAnyH_take (i := 2) (v := ?_) (oper_at (r := _) rfl) (by kernel_rfl) (by kernel_rfl) (by kernel_rfl) (fun _ _ _ h => h) (Or.inl ⟨by rfl, ?_⟩) (by assumption) ?_
    rotate_left
    · intro w hSw; try dsimp only at hSw
      go_simp
      try with_reducible rfl
    try simp only [Act.put, List.setIfInBounds_toArray, List.set_cons_zero, List.set_cons_succ]
    refine wpAnyH_take (i := 4) (v := ?_) (oper_at (r := _) rfl) (by kernel_rfl) (by kernel_rfl) (by kernel_rfl) (fun _ _ _ h => h) (Or.inl ⟨by rfl, ?_⟩) (by assumption) ?_
    rotate_left
    · intro w hSw; try dsimp only at hSw
      go_simp
      try with_reducible rfl
    try simp only [Act.put, List.setIfInBounds_toArray, List.set_cons_zero, List.set_cons_succ]
    refine wpAnyH_take (i := 5) (v := ?_) (oper_at (r := _) rfl) (by kernel_rfl) (by kernel_rfl) (by kernel_rfl) (fun _ _ _ h => h) (Or.inl ⟨by rfl, ?_⟩) (by assumption) ?_
    rotate_left
    · intro w hSw; try dsimp only at hSw
      go_simp
      try with_reducible rfl
    try simp only [Act.put, List.setIfInBounds_toArray, List.set_cons_zero, List.set_cons_succ]
    refine wpAnyH_ready (rs := [3]) (by kernel_rfl) (by simp) ?_
    refine AllReadyH.cons (oper_at (r := _) rfl) (fun K hK => ?_) AllReadyH.nil
    go_simp
    refine (HCA.out _ HSD.out.1).mono ?_
    rintro e w3 ⟨v3, rfl, ho3, hb3⟩
    have HO3 := Lib.hid ho3
    have HS3 := Lib.hid (HSD.out.up hb3)
    have HG3 := Lib.hid (HGD.out.up hb3)
    have HB3 := Lib.hid (HBD.out.up hb3)
    have WD3 := Lib.hid hb3
    obtain ⟨X3, x3, rfl⟩ := OwnE.slice ho3
    clear ho3 hb3 HSD HGD HBD
    go_wp2_with fail
    refine hK.out _ _ (HMM.out _ WD3.out) (fun _ => ?_)
    clear hK K
    try simp only [Act.put, List.setIfInBounds_toArray, List.set_cons_zero, List.set_cons_succ]
    refine wpAnyH_ready (rs := [6]) (by kernel_rfl) (by simp) ?_
    refine AllReadyH.cons (oper_at (r := _) rfl) (fun K hK => ?_) AllReadyH.nil
    go_simp
    refine (HCB.out _ HS3.out.1).mono ?_
    rintro e w4 ⟨v4, rfl, ho4, hb4⟩
    have HO4 := Lib.hid ho4
    have HO34 := Lib.hid (OwnE.below HO3.out hb4 (Nat.le_refl _))
    have HS4 := Lib.hid (HS3.out.up hb4)
    have HG4 := Lib.hid (HG3.out.up hb4)
    have HB4 := Lib.hid (HB3.out.up hb4)
    have WD4 := Lib.hid (WD3.out.trans (hb4.mono WD3.out.size))
    obtain ⟨X4, x4, rfl⟩ := OwnE.slice ho4
    clear ho4 hb4 HS3 HG3 HB3 HO3
    go_wp2_with fail
    refine hK.out _ _ (HMM.out _ WD4.out) (fun _ => ?_)
    clear hK K
    try simp only [Act.put, List.setIfInBounds_toArray, List.set_cons_zero, List.set_cons_succ]
    refine wpAnyH_take (i := 7) (v := ?_) (oper_at (r := _) rfl) (by kernel_rfl) (by kernel_rfl) (by kernel_rfl) (fun _ _ _ h => h) (Or.inl ⟨by rfl, ?_⟩) (by assumption) ?_
    rotate_left
    · intro w hSw; try dsimp only at hSw
      go_simp
      try with_reducible rfl
    try simp only [Act.put, List.setIfInBounds_toArray, List.set_cons_zero, List.set_cons_succ]
    have hbx2 : BX (w.heap.size + 2) (.slice none 0 0) (.slice none 0 0) 25 w4 := HS4.out.2 2 _ rfl
    have HG5 := Lib.hid (grAt_set HG4.out hbx2 (.slice Gn Q.ns.length gn) (.slice Ge Q.es.length ge))
    have hS5 := HS4.out.set (i := 2) rfl (.slice Gn Q.ns.length gn) (.slice Ge Q.es.length ge)
    have HB5 := Lib.hid (HB4.out.far (k := w.heap.size + 2) (by have := H8.out; omega) (.slice Gn Q.ns.length gn) (.slice Ge Q.es.length ge))
    obtain ⟨c4, c5⟩ := HS4.out.cell (i := 2) rfl
    have fr0 := HS4.out.free (i := 2) rfl 0
    have fr1 := HS4.out.free (i := 2) rfl 1
    have HS5 := Lib.hid hS5
    have HO5 : Hid (OwnI ((w4.setCell ⟨w.heap.size + 2, 0, none⟩ (.slice Gn Q.ns.length gn)).setCell ⟨w.heap.size + 2, 1, none⟩ (.slice Ge Q.es.length ge)) wd.heap.size (.slice X3 p.ns.length x3) p.ns) := Lib.hid (ownsRow_setCell_below (ownsRow_setCell_below HO34.out (by show w.heap.size + 2 < wd.heap.size; have := HWS.out; omega) _) (by show w.heap.size + 2 < wd.heap.size; have := HWS.out; omega) _)
    have HO6 : Hid (OwnI ((w4.setCell ⟨w.heap.size + 2, 0, none⟩ (.slice Gn Q.ns.length gn)).setCell ⟨w.heap.size + 2, 1, none⟩ (.slice Ge Q.es.length ge)) w3.heap.size (.slice X4 p.es.length x4) p.es) := Lib.hid (ownsRow_setCell_below (ownsRow_setCell_below HO4.out (by show w.heap.size + 2 < w3.heap.size; have := HWS.out; have := WD3.out.size; omega) _) (by show w.heap.size + 2 < w3.heap.size; have := HWS.out; have := WD3.out.size; omega) _)
    have HSS5 : Hid ((fun u : World => u.cell? ⟨w.heap.size + 1, 0, none⟩ = some (.slice Pn p.ns.length pn) ∧ u.cell? ⟨w.heap.size + 1, 1, none⟩ = some (.slice Pe p.es.length pe) ∧ u.cell? ⟨g8, 0, none⟩ = some (.slice Gn Q.ns.length gn) ∧ u.cell? ⟨g8, 1, none⟩ = some (.slice Ge Q.es.length ge)) ((w4.setCell ⟨w.heap.size + 2, 0, none⟩ (.slice Gn Q.ns.length gn)).setCell ⟨w.heap.size + 2, 1, none⟩ (.slice Ge Q.es.length ge))) := Lib.hid ⟨(HS5.out.cell (i := 1) rfl).1, (HS5.out.cell (i := 1) rfl).2, HB5.out.cells.1, HB5.out.cells.2⟩
    clear hS5 hbx2 HO34 HO4 HG4 HB4
    refine wpAnyH_ready (rs := [8]) (by kernel_rfl) (by simp) ?_
    refine AllReadyH.cons (oper_at (r := _) rfl) (fun K hK => ?_) AllReadyH.nil
    go_simp
    clear c4 c5 fr0 fr1
    refine hK.out _ _ (HSS5.out) (fun _ => ?_)
    clear hK K
    try simp only [Act.put, List.setIfInBounds_toArray, List.set_cons_zero, List.set_cons_succ]
    generalize (w4.setCell ⟨w.heap.size + 2, 0, none⟩ (.slice Gn Q.ns.length gn)).setCell ⟨w.heap.size + 2, 1, none⟩ (.slice Ge Q.es.length ge) = w5 at *
    have hbx3 : BX (w.heap.size + 3) (.slice none 0 0) (.slice none 0 0) 30 w5 := HS5.out.2 3 _ rfl
    have HG7 := Lib.hid (grAt_set HG5.out hbx3 (.slice X3 p.ns.length x3) (.slice X4 p.es.length x4))
    have hS7 := HS5.out.set (i := 3) rfl (.slice X3 p.ns.length x3) (.slice X4 p.es.length x4)
    have HB7 := Lib.hid (HB5.out.far (k := w.heap.size + 3) (by have := H8.out; omega) (.slice X3 p.ns.length x3) (.slice X4 p.es.length x4))
    obtain ⟨c6, c7⟩ := HS5.out.cell (i := 3) rfl
    have fr0 := HS5.out.free (i := 3) rfl 0
    have fr1 := HS5.out.free (i := 3) rfl 1
    have HS7 := Lib.hid hS7
    have HO7 : Hid (OwnI ((w5.setCell ⟨w.heap.size + 3, 0, none⟩ (.slice X3 p.ns.length x3)).setCell ⟨w.heap.size + 3, 1, none⟩ (.slice X4 p.es.length x4)) wd.heap.size (.slice X3 p.ns.length x3) p.ns) := Lib.hid (ownsRow_setCell_below (ownsRow_setCell_below HO5.out (by show w.heap.size + 3 < wd.heap.size; exact HWS.out) _) (by show w.heap.size + 3 < wd.heap.size; exact HWS.out) _)
    have HO8 : Hid (OwnI ((w5.setCell ⟨w.heap.size + 3, 0, none⟩ (.slice X3 p.ns.length x3)).setCell ⟨w.heap.size + 3, 1, none⟩ (.slice X4 p.es.length x4)) w3.heap.size (.slice X4 p.es.length x4) p.es) := Lib.hid (ownsRow_setCell_below (ownsRow_setCell_below HO6.out (by show w.heap.size + 3 < w3.heap.size; have := HWS.out; have := WD3.out.size; omega) _) (by show w.heap.size + 3 < w3.heap.size; have := HWS.out; have := WD3.out.size; omega) _)
    have HSS7 : Hid ((fun u : World => u.cell? ⟨w.heap.size + 1, 0, none⟩ = some (.slice Pn p.ns.length pn) ∧ u.cell? ⟨w.heap.size + 1, 1, none⟩ = some (.slice Pe p.es.length pe) ∧ u.cell? ⟨g8, 0, none⟩ = some (.slice Gn Q.ns.length gn) ∧ u.cell? ⟨g8, 1, none⟩ = some (.slice Ge Q.es.length ge)) ((w5.setCell ⟨w.heap.size + 3, 0, none⟩ (.slice X3 p.ns.length x3)).setCell ⟨w.heap.size + 3, 1, none⟩ (.slice X4 p.es.length x4))) := Lib.hid ⟨(HS7.out.cell (i := 1) rfl).1, (HS7.out.cell (i := 1) rfl).2, HB7.out.cells.1, HB7.out.cells.2⟩
    clear hS7 hbx3 HO5 HO6 HG5 HB5
    refine wpAnyH_ready (rs := [9]) (by kernel_rfl) (by simp) ?_
    refine AllReadyH.cons (oper_at (r := _) rfl) (fun K hK => ?_) AllReadyH.nil
    go_simp
    clear c6 c7 fr0 fr1
    refine hK.out _ _ (HSS7.out) (fun _ => ?_)
    clear hK K
    try simp only [Act.put, List.setIfInBounds_toArray, List.set_cons_zero, List.set_cons_succ]
    refine wpAnyH_take (i := 10) (v := ?_) (oper_at (r := _) rfl) (by kernel_rfl) (by kernel_rfl) (by kernel_rfl) (fun _ _ _ h => h) (Or.inl ⟨by rfl, ?_⟩) (by assumption) ?_
    rotate_left
    · intro w hSw; try dsimp only at hSw
      go_simp
      try with_reducible rfl
    try simp only [Act.put, List.setIfInBounds_toArray, List.set_cons_zero, List.set_cons_succ]
    refine wpAnyH_done (by kernel_rfl) ?_ _
    refine NoPanic.normal ?_
    go_wp2_with fail
    obtain ⟨r0, r1⟩ := HS7.out.cell (i := 2) rfl
    obtain ⟨r2, r3⟩ := HS7.out.cell (i := 3) rfl
    refine bodyPost_ret (v := .tuple #[gval Gn Q.ns.length gn Ge Q.es.length ge, .agg #[.slice X3 p.ns.length x3, .slice X4 p.es.length x4], .int .i64 0]) (by simp [results, Tryz.results6, go_sem, r0, r1, r2, r3]) rfl ?_
    rw [HRG.out, HRP.out, HEE.out]
    unfold ExtPost
    obtain ⟨Y3, y3, e3, q3⟩ := OwnE.reads HO7.out
    obtain ⟨Y4, y4, e4, q4⟩ := OwnE.reads HO8.out
    injection e3 with e3 e31 e32
    injection e4 with e4 e41 e42
    rw [← e3] at q3
    rw [← e4] at q4
    exact ⟨⟨Gn, gn, Ge, ge, X3, x3, X4, x4, rfl, HG7.out, q3, q4, by have := HPL.out.1; unfold maxLen; omega, by have := HPL.out.2; unfold maxLen; omega⟩, HS7.out.1⟩

end Go.Proofs.YthnhacncnhknnaaGreatDoor
