import Derived.Test.YtaeelanbkdkppaaDoorW12
import Derived.Test.YtaeelanbkdkppaaDoorW10
import Derived.Test.YtaeelanbkdkppaaDoorChecked
import Derived.Test.YtaeelanbkdkppaaDoorRows
import Derived.Test.YtaeelanbkdkppaaDoorTie
import Derived.Test.YtaeelanbkdkppaaDoorCards
import Derived.SizedLaws
/-
  MorphismAssociative. Printed by mkl6.py.
-/
namespace Go.Proofs.YtaeelanbkdkppaaDoor
open Go.RowKit Go.Shelf

theorem compose_gives {a b c : Gr} {m n : Mo} (h : MorOk a b m) (k : MorOk b c n) (An : Option Addr) (cn : Nat) (Ae : Option Addr) (ce : Nat) (Bn : Option Addr) (dn : Nat) (Be : Option Addr) (de : Nat) (Cn : Option Addr) (kn : Nat) (Ce : Option Addr) (ke : Nat) (Mn : Option Addr) (mn : Nat) (Me : Option Addr) (me : Nat) (Nn : Option Addr) (nn : Nat) (Ne : Option Addr) (ne : Nat) (u : World) (hTa : GrAt u An cn Ae ce a) (hTb : GrAt u Bn dn Be de b) (hTc : GrAt u Cn kn Ce ke c) (r1 : Ints u u.heap.size Mn m.ns) (r2 : Ints u u.heap.size Me m.es) (s1 : Ints u u.heap.size Nn n.ns) (s2 : Ints u u.heap.size Ne n.es) :
    GivesM 25 #[gval An a.ns.length cn Ae a.es.length ce, gval Bn b.ns.length dn Be b.es.length de, gval Cn c.ns.length kn Ce c.es.length ke, gval Mn m.ns.length mn Me m.es.length me, gval Nn n.ns.length nn Ne n.es.length ne] 0 (compM m n) u := by
  obtain ⟨v1, v2, _⟩ := valid_zero h.va
  obtain ⟨v3, v4, _⟩ := valid_zero k.va
  have h1 := h.ln
  have h2 := h.le
  have h3 := k.ln
  have h4 := k.le
  have e : cmpE a b c m n = 0 := by unfold cmpE; rw [if_neg (fun q => q (mor_zero.2 h))]; exact mor_zero.2 k
  have e2 : cmpR a b c m n = compM m n := by unfold cmpR; rw [if_pos e]
  have q := composeM_any a b c m n An cn Ae ce Bn dn Be de Cn kn Ce ke Mn mn Me me Nn nn Ne ne u hTa hTb hTc r1 r2 (by omega) (by omega) s1 s2 (by omega) (by omega)
  rw [e, e2] at q
  exact givesM q
theorem ident_gives {a : Gr} (h : validE a = 0) (An : Option Addr) (cn : Nat) (Ae : Option Addr) (ce : Nat) (u : World) (hTa : GrAt u An cn Ae ce a) : GivesM 21 #[gval An a.ns.length cn Ae a.es.length ce] 0 (idM a) u := by
  have q := identM_any a An cn Ae ce u hTa
  have e2 : idR a = idM a := by unfold idR; rw [if_pos h]
  rw [h, e2] at q
  exact givesM q

set_option maxRecDepth 100000 in
set_option maxHeartbeats 4000000 in
theorem lawAssoc (d : Dr) (An : Option Addr) (cn : Nat) (Ae : Option Addr) (ce : Nat) (x : List Nat) (Ax : Option Addr) (cx : Nat) (y : List Nat) (Ay : Option Addr) (cy : Nat) (w : World) (h00 : 0 < w.heap.size) (hT : TabW w) (hD : DrAt w An cn Ae ce d) (hX : Reads EBy w w.heap.size Ax x ∧ ∀ i, x.getD i 0 < 256) (hxl : x.length ≤ maxLen) (hY : Reads EBy w w.heap.size Ay y ∧ ∀ i, y.getD i 0 < 256) (hyl : y.length ≤ maxLen) :
    Calls Tryd.prog 8 #[gval An d.ns.length cn Ae d.es.length ce, .slice Ax x.length cx, .slice Ay y.length cy] w fun e w' => e = .returned (.bool true) ∧ Below w.heap.size w w' := by
  have HAW := Lib.hid (awk h00 hT)
  have HCH := Lib.hid (fun (lx : x.length ≤ 20) (ly : y.length ≤ 20) (u : World) (hu : Below w.heap.size w u) => chain_any d An cn Ae ce x Ax cx y Ay cy u (hD.up hu) (Reads.up hX.1 hu) hX.2 (by omega) (Reads.up hY.1 hu) hY.2 (by omega))
  have HXB := Lib.hid hX
  have HYB := Lib.hid hY
  have HS0 : Hid (SV w [([.slice An d.ns.length cn, .slice Ae d.es.length ce], 56)] _) := Lib.hid (SV.push (SV.nil w) rfl [.slice An d.ns.length cn, .slice Ae d.es.length ce] 56)
  clear hT h00 hD hX hY
  generalize madeG d = g at *
  unfold maxLen at hxl hyl
  go_enter Tryd.func8, Tryd.ntmps8
  go_wp2_with fail
  refine (HAW.out _ HS0.out.1).mono ?_
  rintro e w1 ⟨rfl, hb1⟩
  have HS1 := Lib.hid (HS0.out.up hb1)
  clear hb1 HS0
  by_cases lx : x.length ≤ 20
  case neg =>
    have t1 : (20 : Int) < (x.length : Int) := by omega
    clear lx
    go_wp2_with fail
    refine (HAW.out _ HS1.out.1).mono ?_
    rintro e w9 ⟨rfl, hb9⟩
    go_wp2_with fail
    go_ret
    exact ⟨rfl, HS1.out.1.trans (hb9.mono HS1.out.1.size)⟩
  have t1 : ¬ (20 : Int) < (x.length : Int) := by omega
  by_cases ly : y.length ≤ 20
  case neg =>
    have t2 : (20 : Int) < (y.length : Int) := by omega
    clear lx ly
    go_wp2_with fail
    refine (HAW.out _ HS1.out.1).mono ?_
    rintro e w9 ⟨rfl, hb9⟩
    go_wp2_with fail
    go_ret
    exact ⟨rfl, HS1.out.1.trans (hb9.mono HS1.out.1.size)⟩
  have t2 : ¬ (20 : Int) < (y.length : Int) := by omega
  have HCG := Lib.hid (HCH.out lx ly)
  have HXL := Lib.hid (And.intro lx ly)
  have c0 := HS1.out.cell (i := 0) (j := 0) rfl rfl
  have c1 := HS1.out.cell (i := 0) (j := 1) rfl rfl
  simp only [Nat.add_zero] at c0 c1
  clear HAW HCH lx ly hxl hyl
  go_wp2_with fail
  refine (HCG.out _ HS1.out.1).mono ?_
  rintro e w2 ⟨⟨A1, k1, A2, k2, X, Y, rfl, hG, hAX, hAY, hkX, hkY, hl8⟩, hb2⟩
  simp only [Ar.val]
  have HS2 := Lib.hid (HS1.out.up hb2)
  have HK2 : Hid (KP A1 k1 A2 k2 g X Y w2) := Lib.hid ⟨hG, hAX, hAY⟩
  have HKX := Lib.hid hkX
  have HKY := Lib.hid hkY
  have HL8 := Lib.hid hl8
  clear hG hAX hAY hkX hkY hl8 hb2 HS1 HCG c0 c1 t1 t2
  go_upto_region 4 with fail
  have HIM : Hid (∀ (u : World) (_ : ArAt u Y) (v : Value) (B : Nat) (_ : OwnE EBy 5 u B v (y ++ x)), Calls Tryd.prog 35 #[gval Y.An Y.g.ns.length Y.cn Y.Ae Y.g.es.length Y.ce, v] u fun e w' => (∃ Z : Ar, e = .returned (.tuple #[gval Z.An Z.g.ns.length Z.cn Z.Ae Z.g.es.length Z.ce, gval Z.Mn Z.m.ns.length Z.mn Z.Me Z.m.es.length Z.me]) ∧ ArAt w' Z ∧ MorOk Y.g Z.g Z.m) ∧ Below u.heap.size u w') := Lib.hid fun u hu v B hO => by
    obtain ⟨Ac, cc, rfl, hR⟩ := OwnE.reads hO
    refine (imageG Y.g Y.An Y.cn Y.Ae Y.ce (y ++ x) Ac cc u hu.gr HKY.out.vb hR (fun i => ?_) (by have := HXL.out; simp; omega)).mono ?_
    · by_cases h : i < y.length
      · rw [List.getD_eq_getElem?_getD, List.getElem?_append_left h, ← List.getD_eq_getElem?_getD]; exact HYB.out.2 i
      · rw [List.getD_eq_getElem?_getD, List.getElem?_append_right (by omega), ← List.getD_eq_getElem?_getD]; exact HXB.out.2 _
    · rintro e w' ⟨⟨Z, rfl, h1, h2, _⟩, hb⟩
      exact ⟨⟨Z, rfl, h1, h2⟩, hb⟩
  have HCL := Lib.hid (fun (u : World) (hu : Below w.heap.size w u) => cloneB_any y Ay u.heap.size cy u (by have := HXL.out; omega) (Reads.up HYB.out.1 hu))
  have HXR := Lib.hid (fun (u : World) (hu : Below w.heap.size w u) => Reads.up HXB.out.1 hu)
  have HSL : Hid (∀ u ∈ (#[(.slice none 0 0 : Value), .slice none 0 0] : Array Value).toList, ∃ a n c, u = .slice a n c) := Lib.hid fun u hu => by simp at hu; exact ⟨_, _, _, hu⟩
  obtain ⟨V, hV⟩ : ∃ V, V = ((w2.alloc (.cells #[.slice A1 g.ns.length k1, .slice A2 g.es.length k2] 25)).alloc (.cells #[.slice X.An X.g.ns.length X.cn, .slice X.Ae X.g.es.length X.ce, .slice X.Mn X.m.ns.length X.mn, .slice X.Me X.m.es.length X.me] 29)).alloc (.cells #[.slice Y.An Y.g.ns.length Y.cn, .slice Y.Ae Y.g.es.length Y.ce, .slice Y.Mn Y.m.ns.length Y.mn, .slice Y.Me Y.m.es.length Y.me] 29) := ⟨_, rfl⟩
  have hb0 : Below w2.heap.size w2 (w2.alloc (.cells #[.slice A1 g.ns.length k1, .slice A2 g.es.length k2] 25)) := (Below.refl _ _).alloc (Nat.le_refl _) _
  have hbV : Below w2.heap.size w2 V := by rw [hV]; exact (hb0.alloc (by simp) _).alloc (by simp; omega) _
  have HS3 := Lib.hid (HS2.out.up hbV)
  have HK3 := Lib.hid (HK2.out.up hbV)
  have HGA : Hid (BX w2.heap.size (.slice A1 g.ns.length k1) (.slice A2 g.es.length k2) 25 V) := Lib.hid (show V.heap[w2.heap.size]? = _ by rw [hV]; simp only [at_alloc, size_alloc]; repeat (first | rfl | (split; · (first | rfl | omega))))
  have HGP : Hid (V.heap[w2.heap.size + 1]? = some (.cells #[.slice X.An X.g.ns.length X.cn, .slice X.Ae X.g.es.length X.ce, .slice X.Mn X.m.ns.length X.mn, .slice X.Me X.m.es.length X.me] 29 (0, 0))) := Lib.hid (by rw [hV]; simp only [at_alloc, size_alloc]; repeat (first | rfl | (split; · (first | rfl | omega))))
  have HGQ : Hid (V.heap[w2.heap.size + 1 + 1]? = some (.cells #[.slice Y.An Y.g.ns.length Y.cn, .slice Y.Ae Y.g.es.length Y.ce, .slice Y.Mn Y.m.ns.length Y.mn, .slice Y.Me Y.m.es.length Y.me] 29 (0, 0))) := Lib.hid (by rw [hV]; simp only [at_alloc, size_alloc]; repeat (first | rfl | (split; · (first | rfl | omega))))
  have HWS : Hid (w.heap.size ≤ w2.heap.size) := Lib.hid HS2.out.1.size
  rw [← hV]
  obtain ⟨ga, hga⟩ : ∃ k, k = w2.heap.size := ⟨_, rfl⟩
  rw [← hga] at HGA HGP HGQ
  rw [← hga]
  clear hV hb0 hbV HS2 HK2 hga
  go_cut [10, 11] (fun u v wc => ∃ (gc go : Nat) (Z : Ar), u = .pointer (some ⟨gc, 0, none⟩) ∧ v = .pointer (some ⟨go, 0, none⟩) ∧ BX gc (.slice Z.An Z.g.ns.length Z.cn) (.slice Z.Ae Z.g.es.length Z.ce) 25 wc ∧ BX go (.slice Z.Mn Z.m.ns.length Z.mn) (.slice Z.Me Z.m.es.length Z.me) 27 wc ∧ ArAt wc Z ∧ MorOk Y.g Z.g Z.m ∧ Below V.heap.size V wc)
  case first =>
    go_wp2_with fail
    have HGD := Lib.hid (heap_up (below_d V) HGQ.out)
    have HSD := Lib.hid (HS3.out.up (below_d V))
    have HYD := Lib.hid (HK3.out.y.up (below_d V))
    have HVD := Lib.hid (below_d V)
    have q0 : V.drew.cell? ⟨ga + 1 + 1, 0, none⟩ = some (.slice Y.An Y.g.ns.length Y.cn) := cell_of_row _ _ 0 _ _ _ HGD.out
    have q1 : V.drew.cell? ⟨ga + 1 + 1, 1, none⟩ = some (.slice Y.Ae Y.g.es.length Y.ce) := cell_of_row _ _ 1 _ _ _ HGD.out
    have HM : Hid (∀ u, Below V.drew.heap.size V.drew u → (fun u : World => u.cell? ⟨ga + 1 + 1, 0, none⟩ = some (.slice Y.An Y.g.ns.length Y.cn) ∧ u.cell? ⟨ga + 1 + 1, 1, none⟩ = some (.slice Y.Ae Y.g.es.length Y.ce)) u) := Lib.hid fun u hb => ⟨cell_up hb q0, cell_up hb q1⟩
    have WD0 := Lib.hid (Below.refl V.drew.heap.size V.drew)
    clear q0 q1 HGD
    refine wp_region_noPanic ?_
    refine wp_region_held_drew (S := (fun u : World => u.cell? ⟨ga + 1 + 1, 0, none⟩ = some (.slice Y.An Y.g.ns.length Y.cn) ∧ u.cell? ⟨ga + 1 + 1, 1, none⟩ = some (.slice Y.Ae Y.g.es.length Y.ce))) (by kernel_rfl) (HM.out _ WD0.out) (fun hHeld => ?_)
    generalize V.drew = wd at *
    refine wpAnyH_take (i := 0) (v := ?_) (oper_at (r := _) rfl) (by kernel_rfl) (by kernel_rfl) (by kernel_rfl) (fun _ _ _ h => h) (Or.inl ⟨by rfl, ?_⟩) (by assumption) ?_
    rotate_left
    · intro w hSw; try dsimp only at hSw
      go_simp
      try with_reducible rfl
    try simp only [Act.put, List.setIfInBounds_toArray, List.set_cons_zero, List.set_cons_succ]
    refine wpAnyH_take (i := 1) (v := ?_) (oper_at (r := _) rfl) (by kernel_rfl) (by kernel_rfl) (by kernel_rfl) (fun _ _ _ h => h) (Or.inl ⟨by rfl, ?_⟩) (by assumption) ?_
    rotate_left
    · intro w hSw; try dsimp only at hSw
      go_simp
      try with_reducible rfl
    try simp only [Act.put, List.setIfInBounds_toArray, List.set_cons_zero, List.set_cons_succ]
    refine wpAnyH_take (i := 2) (v := ?_) (oper_at (r := _) rfl) (by kernel_rfl) (by kernel_rfl) (by kernel_rfl) (fun _ _ _ h => h) (Or.inl ⟨by rfl, ?_⟩) (by assumption) ?_
    rotate_left
    · intro w hSw; try dsimp only at hSw
      go_simp
      try with_reducible rfl
    try simp only [Act.put, List.setIfInBounds_toArray, List.set_cons_zero, List.set_cons_succ]
    refine wpAnyH_take (i := 4) (v := ?_) (oper_at (r := _) rfl) (by kernel_rfl) (by kernel_rfl) (by kernel_rfl) (fun _ _ _ h => h) (Or.inl ⟨by rfl, ?_⟩) (by assumption) ?_
    rotate_left
    · intro w hSw; try dsimp only at hSw
      go_simp
      try with_reducible rfl
    try simp only [Act.put, List.setIfInBounds_toArray, List.set_cons_zero, List.set_cons_succ]
    refine wpAnyH_ready (rs := [3, 10, 11]) (by kernel_rfl) (by simp) ?_
    refine (AllReadyH.cons (oper_at (r := _) rfl) (fun K hK => ?_) (AllReadyH.cons (oper_at (r := _) rfl) (fun K hK => ?_) (AllReadyH.cons (oper_at (r := _) rfl) (fun K hK => ?_) AllReadyH.nil)))
    · skip
      go_simp
      refine (HCL.out _ (HSD.out.1.trans (WD0.out.mono HSD.out.1.size))).mono ?_
      rintro e W1 ⟨v3, rfl, ho, hb⟩
      have V3_W1 := Lib.hid (OwnE.mono ho WD0.out.size)
      have WD_W1 := Lib.hid (WD0.out.trans (hb.mono WD0.out.size))
      clear WD0
      clear hb ho
      go_wp2_with fail
      refine hK.out _ _ (HM.out _ WD_W1.out) (fun _ => ?_)
      clear hK K
      try simp only [Act.put, List.setIfInBounds_toArray, List.set_cons_zero, List.set_cons_succ]
      refine wpAnyH_ready (rs := [5, 10, 11]) (by kernel_rfl) (by simp) ?_
      refine (AllReadyH.cons (oper_at (r := _) rfl) (fun K hK => ?_) (AllReadyH.cons (oper_at (r := _) rfl) (fun K hK => ?_) (AllReadyH.cons (oper_at (r := _) rfl) (fun K hK => ?_) AllReadyH.nil)))
      · skip
        refine step_append_many (E := EBy) (by rfl) _ _ 53 5 (by rfl) Tryd.underlying53 infoBy rfl (by decide) (by decide) wd.heap.size v3 y (by rfl) V3_W1.out Ax x.length cx W1.heap.size x (by rfl) rfl (HXR.out W1 (HSD.out.1.trans (WD_W1.out.mono HSD.out.1.size))) (by have := HXL.out; omega) (by have := HXL.out; omega) WD_W1.out.size ?_
        intro v5 W2 ho hgr hb _
        have WD_W2 := Lib.hid (WD_W1.out.trans hb)
        have V5_W2 := Lib.hid ho
        clear ho hgr hb
        refine hK.out _ _ (HM.out _ WD_W2.out) (fun _ => ?_)
        clear hK K
        try simp only [Act.put, List.setIfInBounds_toArray, List.set_cons_zero, List.set_cons_succ]
        refine wpAnyH_ready (rs := [6, 10, 11]) (by kernel_rfl) (by simp) ?_
        refine (AllReadyH.cons (oper_at (r := _) rfl) (fun K hK => ?_) (AllReadyH.cons (oper_at (r := _) rfl) (fun K hK => ?_) (AllReadyH.cons (oper_at (r := _) rfl) (fun K hK => ?_) AllReadyH.nil)))
        · skip
          go_simp
          refine (HIM.out _ (HYD.out.up WD_W2.out) v5 _ V5_W2.out).mono ?_
          rintro e W3 ⟨⟨Z, rfl, hz, hk⟩, hb⟩
          have WD_W3 := Lib.hid (WD_W2.out.trans (hb.mono WD_W2.out.size))
          clear WD_W2
          have Z_W3 := Lib.hid hz
          have HKZ := Lib.hid hk
          clear hb hz hk
          go_wp2_with fail
          refine hK.out _ _ (HM.out _ WD_W3.out) (fun _ => ?_)
          clear hK K
          try simp only [Act.put, List.setIfInBounds_toArray, List.set_cons_zero, List.set_cons_succ]
          refine wpAnyH_take (i := 7) (v := ?_) (oper_at (r := _) rfl) (by kernel_rfl) (by kernel_rfl) (by kernel_rfl) (fun _ _ _ h => h) (Or.inl ⟨by rfl, ?_⟩) (by assumption) ?_
          rotate_left
          · intro w hSw; try dsimp only at hSw
            go_simp
            try with_reducible rfl
          try simp only [Act.put, List.setIfInBounds_toArray, List.set_cons_zero, List.set_cons_succ]
          refine wpAnyH_take (i := 8) (v := ?_) (oper_at (r := _) rfl) (by kernel_rfl) (by kernel_rfl) (by kernel_rfl) (fun _ _ _ h => h) (Or.inl ⟨by rfl, ?_⟩) (by assumption) ?_
          rotate_left
          · intro w hSw; try dsimp only at hSw
            go_simp
            try with_reducible rfl
          try simp only [Act.put, List.setIfInBounds_toArray, List.set_cons_zero, List.set_cons_succ]
          refine wpAnyH_take (i := 9) (v := ?_) (oper_at (r := _) rfl) (by kernel_rfl) (by kernel_rfl) (by kernel_rfl) (fun _ _ _ h => h) (Or.inl ⟨by rfl, ?_⟩) (by assumption) ?_
          rotate_left
          · intro w hSw; try dsimp only at hSw
            go_simp
            try with_reducible rfl
          try simp only [Act.put, List.setIfInBounds_toArray, List.set_cons_zero, List.set_cons_succ]
          refine wpAnyH_ready (rs := [10, 11]) (by kernel_rfl) (by simp) ?_
          refine (AllReadyH.cons (oper_at (r := _) rfl) (fun K hK => ?_) (AllReadyH.cons (oper_at (r := _) rfl) (fun K hK => ?_) AllReadyH.nil))
          · skip
            obtain ⟨gc, hg⟩ : ∃ g, g = W3.heap.size := ⟨_, rfl⟩
            have lgc : wd.heap.size ≤ gc := by rw [hg]; exact WD_W3.out.size
            have hx : BX gc (.slice none 0 0) (.slice none 0 0) 25 (W3.alloc (.cells #[.slice none 0 0, .slice none 0 0] 25)) := by rw [hg]; exact heap_alloc_new _ _
            have hb : Below W3.heap.size W3 (W3.alloc (.cells #[.slice none 0 0, .slice none 0 0] 25)) := (Below.refl _ _).alloc (Nat.le_refl _) _
            have WD_W4 := Lib.hid (WD_W3.out.trans (hb.mono WD_W3.out.size))
            have Z_W4 := Lib.hid (Z_W3.out.up hb)
            clear WD_W3 Z_W3
            have C_W4 := Lib.hid hx
            clear hx hb
            go_simp
            refine hK.out _ _ (HM.out _ WD_W4.out) (fun _ => ?_)
            clear hK K
            try simp only [Act.put, List.setIfInBounds_toArray, List.set_cons_zero, List.set_cons_succ]
            generalize W3.alloc (.cells #[.slice none 0 0, .slice none 0 0] 25) = W4 at *
            try rw [← hg]
            clear hg
            refine wpAnyH_ready (rs := [11]) (by kernel_rfl) (by simp) ?_
            refine AllReadyH.cons (oper_at (r := _) rfl) (fun K hK => ?_) AllReadyH.nil
            obtain ⟨go, hg⟩ : ∃ g, g = W4.heap.size := ⟨_, rfl⟩
            have lgo : wd.heap.size ≤ go := by rw [hg]; exact WD_W4.out.size
            have ngogc : gc ≠ go := by have := C_W4.out.lt; omega
            have ngcgo : go ≠ gc := Ne.symm ngogc
            have hx : BX go (.slice none 0 0) (.slice none 0 0) 27 (W4.alloc (.cells #[.slice none 0 0, .slice none 0 0] 27)) := by rw [hg]; exact heap_alloc_new _ _
            have hb : Below W4.heap.size W4 (W4.alloc (.cells #[.slice none 0 0, .slice none 0 0] 27)) := (Below.refl _ _).alloc (Nat.le_refl _) _
            have WD_W5 := Lib.hid (WD_W4.out.trans (hb.mono WD_W4.out.size))
            have Z_W5 := Lib.hid (Z_W4.out.up hb)
            have C_W5 := Lib.hid (C_W4.out.up hb)
            clear WD_W4 Z_W4 C_W4
            have O_W5 := Lib.hid hx
            clear hx hb
            go_simp
            refine hK.out _ _ (HM.out _ WD_W5.out) (fun _ => ?_)
            clear hK K
            try simp only [Act.put, List.setIfInBounds_toArray, List.set_cons_zero, List.set_cons_succ]
            generalize W4.alloc (.cells #[.slice none 0 0, .slice none 0 0] 27) = W5 at *
            try rw [← hg]
            clear hg
            refine wpAnyH_ready (rs := [12]) (by kernel_rfl) (by simp) ?_
            refine AllReadyH.cons (oper_at (r := _) rfl) (fun K hK => ?_) AllReadyH.nil
            have fr0 := C_W5.out.free 0
            have fr1 := C_W5.out.free 1
            obtain ⟨e0, e1⟩ := C_W5.out.cells
            go_simp
            clear fr0 fr1 e0 e1
            have WD_W6 := Lib.hid ((WD_W5.out.setCell (p := ⟨gc, 0, none⟩) (by show wd.heap.size ≤ gc; omega) (.slice Z.An Z.g.ns.length Z.cn)).setCell (p := ⟨gc, 1, none⟩) (by show wd.heap.size ≤ gc; omega) (.slice Z.Ae Z.g.es.length Z.ce))
            have Z_W6 := Lib.hid (Z_W5.out.box (w' := (W5.setCell ⟨gc, 0, none⟩ (.slice Z.An Z.g.ns.length Z.cn)).setCell ⟨gc, 1, none⟩ (.slice Z.Ae Z.g.es.length Z.ce)) C_W5.out HSL.out (fun i hi => (heap_setCell_other _ _ _ _ hi).trans (heap_setCell_other _ _ _ _ hi)) (by simp))
            have C_W6 := Lib.hid (C_W5.out.put (.slice Z.An Z.g.ns.length Z.cn) (.slice Z.Ae Z.g.es.length Z.ce))
            have O_W6 := Lib.hid (O_W5.out.far ngcgo (.slice Z.An Z.g.ns.length Z.cn) (.slice Z.Ae Z.g.es.length Z.ce))
            clear WD_W5 Z_W5 C_W5 O_W5
            refine hK.out _ _ (HM.out _ WD_W6.out) (fun _ => ?_)
            clear hK K
            try simp only [Act.put, List.setIfInBounds_toArray, List.set_cons_zero, List.set_cons_succ]
            generalize (W5.setCell ⟨gc, 0, none⟩ (.slice Z.An Z.g.ns.length Z.cn)).setCell ⟨gc, 1, none⟩ (.slice Z.Ae Z.g.es.length Z.ce) = W6 at *
            refine wpAnyH_ready (rs := [13]) (by kernel_rfl) (by simp) ?_
            refine AllReadyH.cons (oper_at (r := _) rfl) (fun K hK => ?_) AllReadyH.nil
            have fr0 := O_W6.out.free 0
            have fr1 := O_W6.out.free 1
            obtain ⟨e0, e1⟩ := O_W6.out.cells
            go_simp
            clear fr0 fr1 e0 e1
            have WD_W7 := Lib.hid ((WD_W6.out.setCell (p := ⟨go, 0, none⟩) (by show wd.heap.size ≤ go; omega) (.slice Z.Mn Z.m.ns.length Z.mn)).setCell (p := ⟨go, 1, none⟩) (by show wd.heap.size ≤ go; omega) (.slice Z.Me Z.m.es.length Z.me))
            have Z_W7 := Lib.hid (Z_W6.out.box (w' := (W6.setCell ⟨go, 0, none⟩ (.slice Z.Mn Z.m.ns.length Z.mn)).setCell ⟨go, 1, none⟩ (.slice Z.Me Z.m.es.length Z.me)) O_W6.out HSL.out (fun i hi => (heap_setCell_other _ _ _ _ hi).trans (heap_setCell_other _ _ _ _ hi)) (by simp))
            have C_W7 := Lib.hid (C_W6.out.far ngogc (.slice Z.Mn Z.m.ns.length Z.mn) (.slice Z.Me Z.m.es.length Z.me))
            have O_W7 := Lib.hid (O_W6.out.put (.slice Z.Mn Z.m.ns.length Z.mn) (.slice Z.Me Z.m.es.length Z.me))
            clear WD_W6 Z_W6 C_W6 O_W6
            refine hK.out _ _ (HM.out _ WD_W7.out) (fun _ => ?_)
            clear hK K
            try simp only [Act.put, List.setIfInBounds_toArray, List.set_cons_zero, List.set_cons_succ]
            generalize (W6.setCell ⟨go, 0, none⟩ (.slice Z.Mn Z.m.ns.length Z.mn)).setCell ⟨go, 1, none⟩ (.slice Z.Me Z.m.es.length Z.me) = W7 at *
            refine wpAnyH_done (by kernel_rfl) ?_ _
            refine NoPanic.normal ?_
            go_wp2_with fail
            go_meet
            exact ⟨gc, go, Z, rfl, rfl, C_W7.out, O_W7.out, Z_W7.out, HKZ.out, HVD.out.trans (WD_W7.out.mono HVD.out.size)⟩
          · skip
            obtain ⟨go, hg⟩ : ∃ g, g = W3.heap.size := ⟨_, rfl⟩
            have lgo : wd.heap.size ≤ go := by rw [hg]; exact WD_W3.out.size
            have hx : BX go (.slice none 0 0) (.slice none 0 0) 27 (W3.alloc (.cells #[.slice none 0 0, .slice none 0 0] 27)) := by rw [hg]; exact heap_alloc_new _ _
            have hb : Below W3.heap.size W3 (W3.alloc (.cells #[.slice none 0 0, .slice none 0 0] 27)) := (Below.refl _ _).alloc (Nat.le_refl _) _
            have WD_W8 := Lib.hid (WD_W3.out.trans (hb.mono WD_W3.out.size))
            have Z_W8 := Lib.hid (Z_W3.out.up hb)
            clear WD_W3 Z_W3
            have O_W8 := Lib.hid hx
            clear hx hb
            go_simp
            refine hK.out _ _ (HM.out _ WD_W8.out) (fun _ => ?_)
            clear hK K
            try simp only [Act.put, List.setIfInBounds_toArray, List.set_cons_zero, List.set_cons_succ]
            generalize W3.alloc (.cells #[.slice none 0 0, .slice none 0 0] 27) = W8 at *
            try rw [← hg]
            clear hg
            refine wpAnyH_ready (rs := [10]) (by kernel_rfl) (by simp) ?_
            refine AllReadyH.cons (oper_at (r := _) rfl) (fun K hK => ?_) AllReadyH.nil
            obtain ⟨gc, hg⟩ : ∃ g, g = W8.heap.size := ⟨_, rfl⟩
            have lgc : wd.heap.size ≤ gc := by rw [hg]; exact WD_W8.out.size
            have ngcgo : go ≠ gc := by have := O_W8.out.lt; omega
            have ngogc : gc ≠ go := Ne.symm ngcgo
            have hx : BX gc (.slice none 0 0) (.slice none 0 0) 25 (W8.alloc (.cells #[.slice none 0 0, .slice none 0 0] 25)) := by rw [hg]; exact heap_alloc_new _ _
            have hb : Below W8.heap.size W8 (W8.alloc (.cells #[.slice none 0 0, .slice none 0 0] 25)) := (Below.refl _ _).alloc (Nat.le_refl _) _
            have WD_W9 := Lib.hid (WD_W8.out.trans (hb.mono WD_W8.out.size))
            have Z_W9 := Lib.hid (Z_W8.out.up hb)
            have O_W9 := Lib.hid (O_W8.out.up hb)
            clear WD_W8 Z_W8 O_W8
            have C_W9 := Lib.hid hx
            clear hx hb
            go_simp
            refine hK.out _ _ (HM.out _ WD_W9.out) (fun _ => ?_)
            clear hK K
            try simp only [Act.put, List.setIfInBounds_toArray, List.set_cons_zero, List.set_cons_succ]
            generalize W8.alloc (.cells #[.slice none 0 0, .slice none 0 0] 25) = W9 at *
            try rw [← hg]
            clear hg
            refine wpAnyH_ready (rs := [12]) (by kernel_rfl) (by simp) ?_
            refine AllReadyH.cons (oper_at (r := _) rfl) (fun K hK => ?_) AllReadyH.nil
            have fr0 := C_W9.out.free 0
            have fr1 := C_W9.out.free 1
            obtain ⟨e0, e1⟩ := C_W9.out.cells
            go_simp
            clear fr0 fr1 e0 e1
            have WD_W10 := Lib.hid ((WD_W9.out.setCell (p := ⟨gc, 0, none⟩) (by show wd.heap.size ≤ gc; omega) (.slice Z.An Z.g.ns.length Z.cn)).setCell (p := ⟨gc, 1, none⟩) (by show wd.heap.size ≤ gc; omega) (.slice Z.Ae Z.g.es.length Z.ce))
            have Z_W10 := Lib.hid (Z_W9.out.box (w' := (W9.setCell ⟨gc, 0, none⟩ (.slice Z.An Z.g.ns.length Z.cn)).setCell ⟨gc, 1, none⟩ (.slice Z.Ae Z.g.es.length Z.ce)) C_W9.out HSL.out (fun i hi => (heap_setCell_other _ _ _ _ hi).trans (heap_setCell_other _ _ _ _ hi)) (by simp))
            have O_W10 := Lib.hid (O_W9.out.far ngcgo (.slice Z.An Z.g.ns.length Z.cn) (.slice Z.Ae Z.g.es.length Z.ce))
            have C_W10 := Lib.hid (C_W9.out.put (.slice Z.An Z.g.ns.length Z.cn) (.slice Z.Ae Z.g.es.length Z.ce))
            clear WD_W9 Z_W9 O_W9 C_W9
            refine hK.out _ _ (HM.out _ WD_W10.out) (fun _ => ?_)
            clear hK K
            try simp only [Act.put, List.setIfInBounds_toArray, List.set_cons_zero, List.set_cons_succ]
            generalize (W9.setCell ⟨gc, 0, none⟩ (.slice Z.An Z.g.ns.length Z.cn)).setCell ⟨gc, 1, none⟩ (.slice Z.Ae Z.g.es.length Z.ce) = W10 at *
            refine wpAnyH_ready (rs := [13]) (by kernel_rfl) (by simp) ?_
            refine AllReadyH.cons (oper_at (r := _) rfl) (fun K hK => ?_) AllReadyH.nil
            have fr0 := O_W10.out.free 0
            have fr1 := O_W10.out.free 1
            obtain ⟨e0, e1⟩ := O_W10.out.cells
            go_simp
            clear fr0 fr1 e0 e1
            have WD_W11 := Lib.hid ((WD_W10.out.setCell (p := ⟨go, 0, none⟩) (by show wd.heap.size ≤ go; omega) (.slice Z.Mn Z.m.ns.length Z.mn)).setCell (p := ⟨go, 1, none⟩) (by show wd.heap.size ≤ go; omega) (.slice Z.Me Z.m.es.length Z.me))
            have Z_W11 := Lib.hid (Z_W10.out.box (w' := (W10.setCell ⟨go, 0, none⟩ (.slice Z.Mn Z.m.ns.length Z.mn)).setCell ⟨go, 1, none⟩ (.slice Z.Me Z.m.es.length Z.me)) O_W10.out HSL.out (fun i hi => (heap_setCell_other _ _ _ _ hi).trans (heap_setCell_other _ _ _ _ hi)) (by simp))
            have O_W11 := Lib.hid (O_W10.out.put (.slice Z.Mn Z.m.ns.length Z.mn) (.slice Z.Me Z.m.es.length Z.me))
            have C_W11 := Lib.hid (C_W10.out.far ngogc (.slice Z.Mn Z.m.ns.length Z.mn) (.slice Z.Me Z.m.es.length Z.me))
            clear WD_W10 Z_W10 O_W10 C_W10
            refine hK.out _ _ (HM.out _ WD_W11.out) (fun _ => ?_)
            clear hK K
            try simp only [Act.put, List.setIfInBounds_toArray, List.set_cons_zero, List.set_cons_succ]
            generalize (W10.setCell ⟨go, 0, none⟩ (.slice Z.Mn Z.m.ns.length Z.mn)).setCell ⟨go, 1, none⟩ (.slice Z.Me Z.m.es.length Z.me) = W11 at *
            refine wpAnyH_done (by kernel_rfl) ?_ _
            refine NoPanic.normal ?_
            go_wp2_with fail
            go_meet
            exact ⟨gc, go, Z, rfl, rfl, C_W11.out, O_W11.out, Z_W11.out, HKZ.out, HVD.out.trans (WD_W11.out.mono HVD.out.size)⟩
        · skip
          obtain ⟨gc, hg⟩ : ∃ g, g = W2.heap.size := ⟨_, rfl⟩
          have lgc : wd.heap.size ≤ gc := by rw [hg]; exact WD_W2.out.size
          have hx : BX gc (.slice none 0 0) (.slice none 0 0) 25 (W2.alloc (.cells #[.slice none 0 0, .slice none 0 0] 25)) := by rw [hg]; exact heap_alloc_new _ _
          have hb : Below W2.heap.size W2 (W2.alloc (.cells #[.slice none 0 0, .slice none 0 0] 25)) := (Below.refl _ _).alloc (Nat.le_refl _) _
          have WD_W12 := Lib.hid (WD_W2.out.trans (hb.mono WD_W2.out.size))
          have V5_W12 := Lib.hid (OwnE.below V5_W2.out hb (Nat.le_refl _))
          clear WD_W2 V5_W2
          have C_W12 := Lib.hid hx
          clear hx hb
          go_simp
          refine hK.out _ _ (HM.out _ WD_W12.out) (fun _ => ?_)
          clear hK K
          try simp only [Act.put, List.setIfInBounds_toArray, List.set_cons_zero, List.set_cons_succ]
          generalize W2.alloc (.cells #[.slice none 0 0, .slice none 0 0] 25) = W12 at *
          try rw [← hg]
          clear hg
          refine wpAnyH_ready (rs := [6, 11]) (by kernel_rfl) (by simp) ?_
          refine (AllReadyH.cons (oper_at (r := _) rfl) (fun K hK => ?_) (AllReadyH.cons (oper_at (r := _) rfl) (fun K hK => ?_) AllReadyH.nil))
          · skip
            go_simp
            refine (HIM.out _ (HYD.out.up WD_W12.out) v5 _ V5_W12.out).mono ?_
            rintro e W13 ⟨⟨Z, rfl, hz, hk⟩, hb⟩
            have WD_W13 := Lib.hid (WD_W12.out.trans (hb.mono WD_W12.out.size))
            have C_W13 := Lib.hid (C_W12.out.up hb)
            clear WD_W12 C_W12
            have Z_W13 := Lib.hid hz
            have HKZ := Lib.hid hk
            clear hb hz hk
            go_wp2_with fail
            refine hK.out _ _ (HM.out _ WD_W13.out) (fun _ => ?_)
            clear hK K
            try simp only [Act.put, List.setIfInBounds_toArray, List.set_cons_zero, List.set_cons_succ]
            refine wpAnyH_take (i := 7) (v := ?_) (oper_at (r := _) rfl) (by kernel_rfl) (by kernel_rfl) (by kernel_rfl) (fun _ _ _ h => h) (Or.inl ⟨by rfl, ?_⟩) (by assumption) ?_
            rotate_left
            · intro w hSw; try dsimp only at hSw
              go_simp
              try with_reducible rfl
            try simp only [Act.put, List.setIfInBounds_toArray, List.set_cons_zero, List.set_cons_succ]
            refine wpAnyH_take (i := 8) (v := ?_) (oper_at (r := _) rfl) (by kernel_rfl) (by kernel_rfl) (by kernel_rfl) (fun _ _ _ h => h) (Or.inl ⟨by rfl, ?_⟩) (by assumption) ?_
            rotate_left
            · intro w hSw; try dsimp only at hSw
              go_simp
              try with_reducible rfl
            try simp only [Act.put, List.setIfInBounds_toArray, List.set_cons_zero, List.set_cons_succ]
            refine wpAnyH_take (i := 9) (v := ?_) (oper_at (r := _) rfl) (by kernel_rfl) (by kernel_rfl) (by kernel_rfl) (fun _ _ _ h => h) (Or.inl ⟨by rfl, ?_⟩) (by assumption) ?_
            rotate_left
            · intro w hSw; try dsimp only at hSw
              go_simp
              try with_reducible rfl
            try simp only [Act.put, List.setIfInBounds_toArray, List.set_cons_zero, List.set_cons_succ]
            refine wpAnyH_ready (rs := [11]) (by kernel_rfl) (by simp) ?_
            refine AllReadyH.cons (oper_at (r := _) rfl) (fun K hK => ?_) AllReadyH.nil
            obtain ⟨go, hg⟩ : ∃ g, g = W13.heap.size := ⟨_, rfl⟩
            have lgo : wd.heap.size ≤ go := by rw [hg]; exact WD_W13.out.size
            have ngogc : gc ≠ go := by have := C_W13.out.lt; omega
            have ngcgo : go ≠ gc := Ne.symm ngogc
            have hx : BX go (.slice none 0 0) (.slice none 0 0) 27 (W13.alloc (.cells #[.slice none 0 0, .slice none 0 0] 27)) := by rw [hg]; exact heap_alloc_new _ _
            have hb : Below W13.heap.size W13 (W13.alloc (.cells #[.slice none 0 0, .slice none 0 0] 27)) := (Below.refl _ _).alloc (Nat.le_refl _) _
            have WD_W14 := Lib.hid (WD_W13.out.trans (hb.mono WD_W13.out.size))
            have C_W14 := Lib.hid (C_W13.out.up hb)
            have Z_W14 := Lib.hid (Z_W13.out.up hb)
            clear WD_W13 C_W13 Z_W13
            have O_W14 := Lib.hid hx
            clear hx hb
            go_simp
            refine hK.out _ _ (HM.out _ WD_W14.out) (fun _ => ?_)
            clear hK K
            try simp only [Act.put, List.setIfInBounds_toArray, List.set_cons_zero, List.set_cons_succ]
            generalize W13.alloc (.cells #[.slice none 0 0, .slice none 0 0] 27) = W14 at *
            try rw [← hg]
            clear hg
            refine wpAnyH_ready (rs := [12]) (by kernel_rfl) (by simp) ?_
            refine AllReadyH.cons (oper_at (r := _) rfl) (fun K hK => ?_) AllReadyH.nil
            have fr0 := C_W14.out.free 0
            have fr1 := C_W14.out.free 1
            obtain ⟨e0, e1⟩ := C_W14.out.cells
            go_simp
            clear fr0 fr1 e0 e1
            have WD_W15 := Lib.hid ((WD_W14.out.setCell (p := ⟨gc, 0, none⟩) (by show wd.heap.size ≤ gc; omega) (.slice Z.An Z.g.ns.length Z.cn)).setCell (p := ⟨gc, 1, none⟩) (by show wd.heap.size ≤ gc; omega) (.slice Z.Ae Z.g.es.length Z.ce))
            have C_W15 := Lib.hid (C_W14.out.put (.slice Z.An Z.g.ns.length Z.cn) (.slice Z.Ae Z.g.es.length Z.ce))
            have Z_W15 := Lib.hid (Z_W14.out.box (w' := (W14.setCell ⟨gc, 0, none⟩ (.slice Z.An Z.g.ns.length Z.cn)).setCell ⟨gc, 1, none⟩ (.slice Z.Ae Z.g.es.length Z.ce)) C_W14.out HSL.out (fun i hi => (heap_setCell_other _ _ _ _ hi).trans (heap_setCell_other _ _ _ _ hi)) (by simp))
            have O_W15 := Lib.hid (O_W14.out.far ngcgo (.slice Z.An Z.g.ns.length Z.cn) (.slice Z.Ae Z.g.es.length Z.ce))
            clear WD_W14 C_W14 Z_W14 O_W14
            refine hK.out _ _ (HM.out _ WD_W15.out) (fun _ => ?_)
            clear hK K
            try simp only [Act.put, List.setIfInBounds_toArray, List.set_cons_zero, List.set_cons_succ]
            generalize (W14.setCell ⟨gc, 0, none⟩ (.slice Z.An Z.g.ns.length Z.cn)).setCell ⟨gc, 1, none⟩ (.slice Z.Ae Z.g.es.length Z.ce) = W15 at *
            refine wpAnyH_ready (rs := [13]) (by kernel_rfl) (by simp) ?_
            refine AllReadyH.cons (oper_at (r := _) rfl) (fun K hK => ?_) AllReadyH.nil
            have fr0 := O_W15.out.free 0
            have fr1 := O_W15.out.free 1
            obtain ⟨e0, e1⟩ := O_W15.out.cells
            go_simp
            clear fr0 fr1 e0 e1
            have WD_W16 := Lib.hid ((WD_W15.out.setCell (p := ⟨go, 0, none⟩) (by show wd.heap.size ≤ go; omega) (.slice Z.Mn Z.m.ns.length Z.mn)).setCell (p := ⟨go, 1, none⟩) (by show wd.heap.size ≤ go; omega) (.slice Z.Me Z.m.es.length Z.me))
            have C_W16 := Lib.hid (C_W15.out.far ngogc (.slice Z.Mn Z.m.ns.length Z.mn) (.slice Z.Me Z.m.es.length Z.me))
            have Z_W16 := Lib.hid (Z_W15.out.box (w' := (W15.setCell ⟨go, 0, none⟩ (.slice Z.Mn Z.m.ns.length Z.mn)).setCell ⟨go, 1, none⟩ (.slice Z.Me Z.m.es.length Z.me)) O_W15.out HSL.out (fun i hi => (heap_setCell_other _ _ _ _ hi).trans (heap_setCell_other _ _ _ _ hi)) (by simp))
            have O_W16 := Lib.hid (O_W15.out.put (.slice Z.Mn Z.m.ns.length Z.mn) (.slice Z.Me Z.m.es.length Z.me))
            clear WD_W15 C_W15 Z_W15 O_W15
            refine hK.out _ _ (HM.out _ WD_W16.out) (fun _ => ?_)
            clear hK K
            try simp only [Act.put, List.setIfInBounds_toArray, List.set_cons_zero, List.set_cons_succ]
            generalize (W15.setCell ⟨go, 0, none⟩ (.slice Z.Mn Z.m.ns.length Z.mn)).setCell ⟨go, 1, none⟩ (.slice Z.Me Z.m.es.length Z.me) = W16 at *
            refine wpAnyH_done (by kernel_rfl) ?_ _
            refine NoPanic.normal ?_
            go_wp2_with fail
            go_meet
            exact ⟨gc, go, Z, rfl, rfl, C_W16.out, O_W16.out, Z_W16.out, HKZ.out, HVD.out.trans (WD_W16.out.mono HVD.out.size)⟩
          · skip
            obtain ⟨go, hg⟩ : ∃ g, g = W12.heap.size := ⟨_, rfl⟩
            have lgo : wd.heap.size ≤ go := by rw [hg]; exact WD_W12.out.size
            have ngogc : gc ≠ go := by have := C_W12.out.lt; omega
            have ngcgo : go ≠ gc := Ne.symm ngogc
            have hx : BX go (.slice none 0 0) (.slice none 0 0) 27 (W12.alloc (.cells #[.slice none 0 0, .slice none 0 0] 27)) := by rw [hg]; exact heap_alloc_new _ _
            have hb : Below W12.heap.size W12 (W12.alloc (.cells #[.slice none 0 0, .slice none 0 0] 27)) := (Below.refl _ _).alloc (Nat.le_refl _) _
            have WD_W17 := Lib.hid (WD_W12.out.trans (hb.mono WD_W12.out.size))
            have V5_W17 := Lib.hid (OwnE.below V5_W12.out hb (Nat.le_refl _))
            have C_W17 := Lib.hid (C_W12.out.up hb)
            clear WD_W12 V5_W12 C_W12
            have O_W17 := Lib.hid hx
            clear hx hb
            go_simp
            refine hK.out _ _ (HM.out _ WD_W17.out) (fun _ => ?_)
            clear hK K
            try simp only [Act.put, List.setIfInBounds_toArray, List.set_cons_zero, List.set_cons_succ]
            generalize W12.alloc (.cells #[.slice none 0 0, .slice none 0 0] 27) = W17 at *
            try rw [← hg]
            clear hg
            refine wpAnyH_ready (rs := [6]) (by kernel_rfl) (by simp) ?_
            refine AllReadyH.cons (oper_at (r := _) rfl) (fun K hK => ?_) AllReadyH.nil
            go_simp
            refine (HIM.out _ (HYD.out.up WD_W17.out) v5 _ V5_W17.out).mono ?_
            rintro e W18 ⟨⟨Z, rfl, hz, hk⟩, hb⟩
            have WD_W18 := Lib.hid (WD_W17.out.trans (hb.mono WD_W17.out.size))
            have C_W18 := Lib.hid (C_W17.out.up hb)
            have O_W18 := Lib.hid (O_W17.out.up hb)
            clear WD_W17 C_W17 O_W17
            have Z_W18 := Lib.hid hz
            have HKZ := Lib.hid hk
            clear hb hz hk
            go_wp2_with fail
            refine hK.out _ _ (HM.out _ WD_W18.out) (fun _ => ?_)
            clear hK K
            try simp only [Act.put, List.setIfInBounds_toArray, List.set_cons_zero, List.set_cons_succ]
            refine wpAnyH_take (i := 7) (v := ?_) (oper_at (r := _) rfl) (by kernel_rfl) (by kernel_rfl) (by kernel_rfl) (fun _ _ _ h => h) (Or.inl ⟨by rfl, ?_⟩) (by assumption) ?_
            rotate_left
            · intro w hSw; try dsimp only at hSw
              go_simp
              try with_reducible rfl
            try simp only [Act.put, List.setIfInBounds_toArray, List.set_cons_zero, List.set_cons_succ]
            refine wpAnyH_take (i := 8) (v := ?_) (oper_at (r := _) rfl) (by kernel_rfl) (by kernel_rfl) (by kernel_rfl) (fun _ _ _ h => h) (Or.inl ⟨by rfl, ?_⟩) (by assumption) ?_
            rotate_left
            · intro w hSw; try dsimp only at hSw
              go_simp
              try with_reducible rfl
            try simp only [Act.put, List.setIfInBounds_toArray, List.set_cons_zero, List.set_cons_succ]
            refine wpAnyH_take (i := 9) (v := ?_) (oper_at (r := _) rfl) (by kernel_rfl) (by kernel_rfl) (by kernel_rfl) (fun _ _ _ h => h) (Or.inl ⟨by rfl, ?_⟩) (by assumption) ?_
            rotate_left
            · intro w hSw; try dsimp only at hSw
              go_simp
              try with_reducible rfl
            try simp only [Act.put, List.setIfInBounds_toArray, List.set_cons_zero, List.set_cons_succ]
            refine wpAnyH_ready (rs := [12]) (by kernel_rfl) (by simp) ?_
            refine AllReadyH.cons (oper_at (r := _) rfl) (fun K hK => ?_) AllReadyH.nil
            have fr0 := C_W18.out.free 0
            have fr1 := C_W18.out.free 1
            obtain ⟨e0, e1⟩ := C_W18.out.cells
            go_simp
            clear fr0 fr1 e0 e1
            have WD_W19 := Lib.hid ((WD_W18.out.setCell (p := ⟨gc, 0, none⟩) (by show wd.heap.size ≤ gc; omega) (.slice Z.An Z.g.ns.length Z.cn)).setCell (p := ⟨gc, 1, none⟩) (by show wd.heap.size ≤ gc; omega) (.slice Z.Ae Z.g.es.length Z.ce))
            have C_W19 := Lib.hid (C_W18.out.put (.slice Z.An Z.g.ns.length Z.cn) (.slice Z.Ae Z.g.es.length Z.ce))
            have O_W19 := Lib.hid (O_W18.out.far ngcgo (.slice Z.An Z.g.ns.length Z.cn) (.slice Z.Ae Z.g.es.length Z.ce))
            have Z_W19 := Lib.hid (Z_W18.out.box (w' := (W18.setCell ⟨gc, 0, none⟩ (.slice Z.An Z.g.ns.length Z.cn)).setCell ⟨gc, 1, none⟩ (.slice Z.Ae Z.g.es.length Z.ce)) C_W18.out HSL.out (fun i hi => (heap_setCell_other _ _ _ _ hi).trans (heap_setCell_other _ _ _ _ hi)) (by simp))
            clear WD_W18 C_W18 O_W18 Z_W18
            refine hK.out _ _ (HM.out _ WD_W19.out) (fun _ => ?_)
            clear hK K
            try simp only [Act.put, List.setIfInBounds_toArray, List.set_cons_zero, List.set_cons_succ]
            generalize (W18.setCell ⟨gc, 0, none⟩ (.slice Z.An Z.g.ns.length Z.cn)).setCell ⟨gc, 1, none⟩ (.slice Z.Ae Z.g.es.length Z.ce) = W19 at *
            refine wpAnyH_ready (rs := [13]) (by kernel_rfl) (by simp) ?_
            refine AllReadyH.cons (oper_at (r := _) rfl) (fun K hK => ?_) AllReadyH.nil
            have fr0 := O_W19.out.free 0
            have fr1 := O_W19.out.free 1
            obtain ⟨e0, e1⟩ := O_W19.out.cells
            go_simp
            clear fr0 fr1 e0 e1
            have WD_W20 := Lib.hid ((WD_W19.out.setCell (p := ⟨go, 0, none⟩) (by show wd.heap.size ≤ go; omega) (.slice Z.Mn Z.m.ns.length Z.mn)).setCell (p := ⟨go, 1, none⟩) (by show wd.heap.size ≤ go; omega) (.slice Z.Me Z.m.es.length Z.me))
            have C_W20 := Lib.hid (C_W19.out.far ngogc (.slice Z.Mn Z.m.ns.length Z.mn) (.slice Z.Me Z.m.es.length Z.me))
            have O_W20 := Lib.hid (O_W19.out.put (.slice Z.Mn Z.m.ns.length Z.mn) (.slice Z.Me Z.m.es.length Z.me))
            have Z_W20 := Lib.hid (Z_W19.out.box (w' := (W19.setCell ⟨go, 0, none⟩ (.slice Z.Mn Z.m.ns.length Z.mn)).setCell ⟨go, 1, none⟩ (.slice Z.Me Z.m.es.length Z.me)) O_W19.out HSL.out (fun i hi => (heap_setCell_other _ _ _ _ hi).trans (heap_setCell_other _ _ _ _ hi)) (by simp))
            clear WD_W19 C_W19 O_W19 Z_W19
            refine hK.out _ _ (HM.out _ WD_W20.out) (fun _ => ?_)
            clear hK K
            try simp only [Act.put, List.setIfInBounds_toArray, List.set_cons_zero, List.set_cons_succ]
            generalize (W19.setCell ⟨go, 0, none⟩ (.slice Z.Mn Z.m.ns.length Z.mn)).setCell ⟨go, 1, none⟩ (.slice Z.Me Z.m.es.length Z.me) = W20 at *
            refine wpAnyH_done (by kernel_rfl) ?_ _
            refine NoPanic.normal ?_
            go_wp2_with fail
            go_meet
            exact ⟨gc, go, Z, rfl, rfl, C_W20.out, O_W20.out, Z_W20.out, HKZ.out, HVD.out.trans (WD_W20.out.mono HVD.out.size)⟩
        · skip
          obtain ⟨go, hg⟩ : ∃ g, g = W2.heap.size := ⟨_, rfl⟩
          have lgo : wd.heap.size ≤ go := by rw [hg]; exact WD_W2.out.size
          have hx : BX go (.slice none 0 0) (.slice none 0 0) 27 (W2.alloc (.cells #[.slice none 0 0, .slice none 0 0] 27)) := by rw [hg]; exact heap_alloc_new _ _
          have hb : Below W2.heap.size W2 (W2.alloc (.cells #[.slice none 0 0, .slice none 0 0] 27)) := (Below.refl _ _).alloc (Nat.le_refl _) _
          have WD_W21 := Lib.hid (WD_W2.out.trans (hb.mono WD_W2.out.size))
          have V5_W21 := Lib.hid (OwnE.below V5_W2.out hb (Nat.le_refl _))
          clear WD_W2 V5_W2
          have O_W21 := Lib.hid hx
          clear hx hb
          go_simp
          refine hK.out _ _ (HM.out _ WD_W21.out) (fun _ => ?_)
          clear hK K
          try simp only [Act.put, List.setIfInBounds_toArray, List.set_cons_zero, List.set_cons_succ]
          generalize W2.alloc (.cells #[.slice none 0 0, .slice none 0 0] 27) = W21 at *
          try rw [← hg]
          clear hg
          refine wpAnyH_ready (rs := [6, 10]) (by kernel_rfl) (by simp) ?_
          refine (AllReadyH.cons (oper_at (r := _) rfl) (fun K hK => ?_) (AllReadyH.cons (oper_at (r := _) rfl) (fun K hK => ?_) AllReadyH.nil))
          · skip
            go_simp
            refine (HIM.out _ (HYD.out.up WD_W21.out) v5 _ V5_W21.out).mono ?_
            rintro e W22 ⟨⟨Z, rfl, hz, hk⟩, hb⟩
            have WD_W22 := Lib.hid (WD_W21.out.trans (hb.mono WD_W21.out.size))
            have O_W22 := Lib.hid (O_W21.out.up hb)
            clear WD_W21 O_W21
            have Z_W22 := Lib.hid hz
            have HKZ := Lib.hid hk
            clear hb hz hk
            go_wp2_with fail
            refine hK.out _ _ (HM.out _ WD_W22.out) (fun _ => ?_)
            clear hK K
            try simp only [Act.put, List.setIfInBounds_toArray, List.set_cons_zero, List.set_cons_succ]
            refine wpAnyH_take (i := 7) (v := ?_) (oper_at (r := _) rfl) (by kernel_rfl) (by kernel_rfl) (by kernel_rfl) (fun _ _ _ h => h) (Or.inl ⟨by rfl, ?_⟩) (by assumption) ?_
            rotate_left
            · intro w hSw; try dsimp only at hSw
              go_simp
              try with_reducible rfl
            try simp only [Act.put, List.setIfInBounds_toArray, List.set_cons_zero, List.set_cons_succ]
            refine wpAnyH_take (i := 8) (v := ?_) (oper_at (r := _) rfl) (by kernel_rfl) (by kernel_rfl) (by kernel_rfl) (fun _ _ _ h => h) (Or.inl ⟨by rfl, ?_⟩) (by assumption) ?_
            rotate_left
            · intro w hSw; try dsimp only at hSw
              go_simp
              try with_reducible rfl
            try simp only [Act.put, List.setIfInBounds_toArray, List.set_cons_zero, List.set_cons_succ]
            refine wpAnyH_take (i := 9) (v := ?_) (oper_at (r := _) rfl) (by kernel_rfl) (by kernel_rfl) (by kernel_rfl) (fun _ _ _ h => h) (Or.inl ⟨by rfl, ?_⟩) (by assumption) ?_
            rotate_left
            · intro w hSw; try dsimp only at hSw
              go_simp
              try with_reducible rfl
            try simp only [Act.put, List.setIfInBounds_toArray, List.set_cons_zero, List.set_cons_succ]
            refine wpAnyH_ready (rs := [10]) (by kernel_rfl) (by simp) ?_
            refine AllReadyH.cons (oper_at (r := _) rfl) (fun K hK => ?_) AllReadyH.nil
            obtain ⟨gc, hg⟩ : ∃ g, g = W22.heap.size := ⟨_, rfl⟩
            have lgc : wd.heap.size ≤ gc := by rw [hg]; exact WD_W22.out.size
            have ngcgo : go ≠ gc := by have := O_W22.out.lt; omega
            have ngogc : gc ≠ go := Ne.symm ngcgo
            have hx : BX gc (.slice none 0 0) (.slice none 0 0) 25 (W22.alloc (.cells #[.slice none 0 0, .slice none 0 0] 25)) := by rw [hg]; exact heap_alloc_new _ _
            have hb : Below W22.heap.size W22 (W22.alloc (.cells #[.slice none 0 0, .slice none 0 0] 25)) := (Below.refl _ _).alloc (Nat.le_refl _) _
            have WD_W23 := Lib.hid (WD_W22.out.trans (hb.mono WD_W22.out.size))
            have O_W23 := Lib.hid (O_W22.out.up hb)
            have Z_W23 := Lib.hid (Z_W22.out.up hb)
            clear WD_W22 O_W22 Z_W22
            have C_W23 := Lib.hid hx
            clear hx hb
            go_simp
            refine hK.out _ _ (HM.out _ WD_W23.out) (fun _ => ?_)
            clear hK K
            try simp only [Act.put, List.setIfInBounds_toArray, List.set_cons_zero, List.set_cons_succ]
            generalize W22.alloc (.cells #[.slice none 0 0, .slice none 0 0] 25) = W23 at *
            try rw [← hg]
            clear hg
            refine wpAnyH_ready (rs := [12]) (by kernel_rfl) (by simp) ?_
            refine AllReadyH.cons (oper_at (r := _) rfl) (fun K hK => ?_) AllReadyH.nil
            have fr0 := C_W23.out.free 0
            have fr1 := C_W23.out.free 1
            obtain ⟨e0, e1⟩ := C_W23.out.cells
            go_simp
            clear fr0 fr1 e0 e1
            have WD_W24 := Lib.hid ((WD_W23.out.setCell (p := ⟨gc, 0, none⟩) (by show wd.heap.size ≤ gc; omega) (.slice Z.An Z.g.ns.length Z.cn)).setCell (p := ⟨gc, 1, none⟩) (by show wd.heap.size ≤ gc; omega) (.slice Z.Ae Z.g.es.length Z.ce))
            have O_W24 := Lib.hid (O_W23.out.far ngcgo (.slice Z.An Z.g.ns.length Z.cn) (.slice Z.Ae Z.g.es.length Z.ce))
            have Z_W24 := Lib.hid (Z_W23.out.box (w' := (W23.setCell ⟨gc, 0, none⟩ (.slice Z.An Z.g.ns.length Z.cn)).setCell ⟨gc, 1, none⟩ (.slice Z.Ae Z.g.es.length Z.ce)) C_W23.out HSL.out (fun i hi => (heap_setCell_other _ _ _ _ hi).trans (heap_setCell_other _ _ _ _ hi)) (by simp))
            have C_W24 := Lib.hid (C_W23.out.put (.slice Z.An Z.g.ns.length Z.cn) (.slice Z.Ae Z.g.es.length Z.ce))
            clear WD_W23 O_W23 Z_W23 C_W23
            refine hK.out _ _ (HM.out _ WD_W24.out) (fun _ => ?_)
            clear hK K
            try simp only [Act.put, List.setIfInBounds_toArray, List.set_cons_zero, List.set_cons_succ]
            generalize (W23.setCell ⟨gc, 0, none⟩ (.slice Z.An Z.g.ns.length Z.cn)).setCell ⟨gc, 1, none⟩ (.slice Z.Ae Z.g.es.length Z.ce) = W24 at *
            refine wpAnyH_ready (rs := [13]) (by kernel_rfl) (by simp) ?_
            refine AllReadyH.cons (oper_at (r := _) rfl) (fun K hK => ?_) AllReadyH.nil
            have fr0 := O_W24.out.free 0
            have fr1 := O_W24.out.free 1
            obtain ⟨e0, e1⟩ := O_W24.out.cells
            go_simp
            clear fr0 fr1 e0 e1
            have WD_W25 := Lib.hid ((WD_W24.out.setCell (p := ⟨go, 0, none⟩) (by show wd.heap.size ≤ go; omega) (.slice Z.Mn Z.m.ns.length Z.mn)).setCell (p := ⟨go, 1, none⟩) (by show wd.heap.size ≤ go; omega) (.slice Z.Me Z.m.es.length Z.me))
            have O_W25 := Lib.hid (O_W24.out.put (.slice Z.Mn Z.m.ns.length Z.mn) (.slice Z.Me Z.m.es.length Z.me))
            have Z_W25 := Lib.hid (Z_W24.out.box (w' := (W24.setCell ⟨go, 0, none⟩ (.slice Z.Mn Z.m.ns.length Z.mn)).setCell ⟨go, 1, none⟩ (.slice Z.Me Z.m.es.length Z.me)) O_W24.out HSL.out (fun i hi => (heap_setCell_other _ _ _ _ hi).trans (heap_setCell_other _ _ _ _ hi)) (by simp))
            have C_W25 := Lib.hid (C_W24.out.far ngogc (.slice Z.Mn Z.m.ns.length Z.mn) (.slice Z.Me Z.m.es.length Z.me))
            clear WD_W24 O_W24 Z_W24 C_W24
            refine hK.out _ _ (HM.out _ WD_W25.out) (fun _ => ?_)
            clear hK K
            try simp only [Act.put, List.setIfInBounds_toArray, List.set_cons_zero, List.set_cons_succ]
            generalize (W24.setCell ⟨go, 0, none⟩ (.slice Z.Mn Z.m.ns.length Z.mn)).setCell ⟨go, 1, none⟩ (.slice Z.Me Z.m.es.length Z.me) = W25 at *
            refine wpAnyH_done (by kernel_rfl) ?_ _
            refine NoPanic.normal ?_
            go_wp2_with fail
            go_meet
            exact ⟨gc, go, Z, rfl, rfl, C_W25.out, O_W25.out, Z_W25.out, HKZ.out, HVD.out.trans (WD_W25.out.mono HVD.out.size)⟩
          · skip
            obtain ⟨gc, hg⟩ : ∃ g, g = W21.heap.size := ⟨_, rfl⟩
            have lgc : wd.heap.size ≤ gc := by rw [hg]; exact WD_W21.out.size
            have ngcgo : go ≠ gc := by have := O_W21.out.lt; omega
            have ngogc : gc ≠ go := Ne.symm ngcgo
            have hx : BX gc (.slice none 0 0) (.slice none 0 0) 25 (W21.alloc (.cells #[.slice none 0 0, .slice none 0 0] 25)) := by rw [hg]; exact heap_alloc_new _ _
            have hb : Below W21.heap.size W21 (W21.alloc (.cells #[.slice none 0 0, .slice none 0 0] 25)) := (Below.refl _ _).alloc (Nat.le_refl _) _
            have WD_W26 := Lib.hid (WD_W21.out.trans (hb.mono WD_W21.out.size))
            have V5_W26 := Lib.hid (OwnE.below V5_W21.out hb (Nat.le_refl _))
            have O_W26 := Lib.hid (O_W21.out.up hb)
            clear WD_W21 V5_W21 O_W21
            have C_W26 := Lib.hid hx
            clear hx hb
            go_simp
            refine hK.out _ _ (HM.out _ WD_W26.out) (fun _ => ?_)
            clear hK K
            try simp only [Act.put, List.setIfInBounds_toArray, List.set_cons_zero, List.set_cons_succ]
            generalize W21.alloc (.cells #[.slice none 0 0, .slice none 0 0] 25) = W26 at *
            try rw [← hg]
            clear hg
            refine wpAnyH_ready (rs := [6]) (by kernel_rfl) (by simp) ?_
            refine AllReadyH.cons (oper_at (r := _) rfl) (fun K hK => ?_) AllReadyH.nil
            go_simp
            refine (HIM.out _ (HYD.out.up WD_W26.out) v5 _ V5_W26.out).mono ?_
            rintro e W27 ⟨⟨Z, rfl, hz, hk⟩, hb⟩
            have WD_W27 := Lib.hid (WD_W26.out.trans (hb.mono WD_W26.out.size))
            have O_W27 := Lib.hid (O_W26.out.up hb)
            have C_W27 := Lib.hid (C_W26.out.up hb)
            clear WD_W26 O_W26 C_W26
            have Z_W27 := Lib.hid hz
            have HKZ := Lib.hid hk
            clear hb hz hk
            go_wp2_with fail
            refine hK.out _ _ (HM.out _ WD_W27.out) (fun _ => ?_)
            clear hK K
            try simp only [Act.put, List.setIfInBounds_toArray, List.set_cons_zero, List.set_cons_succ]
            refine wpAnyH_take (i := 7) (v := ?_) (oper_at (r := _) rfl) (by kernel_rfl) (by kernel_rfl) (by kernel_rfl) (fun _ _ _ h => h) (Or.inl ⟨by rfl, ?_⟩) (by assumption) ?_
            rotate_left
            · intro w hSw; try dsimp only at hSw
              go_simp
              try with_reducible rfl
            try simp only [Act.put, List.setIfInBounds_toArray, List.set_cons_zero, List.set_cons_succ]
            refine wpAnyH_take (i := 8) (v := ?_) (oper_at (r := _) rfl) (by kernel_rfl) (by kernel_rfl) (by kernel_rfl) (fun _ _ _ h => h) (Or.inl ⟨by rfl, ?_⟩) (by assumption) ?_
            rotate_left
            · intro w hSw; try dsimp only at hSw
              go_simp
              try with_reducible rfl
            try simp only [Act.put, List.setIfInBounds_toArray, List.set_cons_zero, List.set_cons_succ]
            refine wpAnyH_take (i := 9) (v := ?_) (oper_at (r := _) rfl) (by kernel_rfl) (by kernel_rfl) (by kernel_rfl) (fun _ _ _ h => h) (Or.inl ⟨by rfl, ?_⟩) (by assumption) ?_
            rotate_left
            · intro w hSw; try dsimp only at hSw
              go_simp
              try with_reducible rfl
            try simp only [Act.put, List.setIfInBounds_toArray, List.set_cons_zero, List.set_cons_succ]
            refine wpAnyH_ready (rs := [12]) (by kernel_rfl) (by simp) ?_
            refine AllReadyH.cons (oper_at (r := _) rfl) (fun K hK => ?_) AllReadyH.nil
            have fr0 := C_W27.out.free 0
            have fr1 := C_W27.out.free 1
            obtain ⟨e0, e1⟩ := C_W27.out.cells
            go_simp
            clear fr0 fr1 e0 e1
            have WD_W28 := Lib.hid ((WD_W27.out.setCell (p := ⟨gc, 0, none⟩) (by show wd.heap.size ≤ gc; omega) (.slice Z.An Z.g.ns.length Z.cn)).setCell (p := ⟨gc, 1, none⟩) (by show wd.heap.size ≤ gc; omega) (.slice Z.Ae Z.g.es.length Z.ce))
            have O_W28 := Lib.hid (O_W27.out.far ngcgo (.slice Z.An Z.g.ns.length Z.cn) (.slice Z.Ae Z.g.es.length Z.ce))
            have C_W28 := Lib.hid (C_W27.out.put (.slice Z.An Z.g.ns.length Z.cn) (.slice Z.Ae Z.g.es.length Z.ce))
            have Z_W28 := Lib.hid (Z_W27.out.box (w' := (W27.setCell ⟨gc, 0, none⟩ (.slice Z.An Z.g.ns.length Z.cn)).setCell ⟨gc, 1, none⟩ (.slice Z.Ae Z.g.es.length Z.ce)) C_W27.out HSL.out (fun i hi => (heap_setCell_other _ _ _ _ hi).trans (heap_setCell_other _ _ _ _ hi)) (by simp))
            clear WD_W27 O_W27 C_W27 Z_W27
            refine hK.out _ _ (HM.out _ WD_W28.out) (fun _ => ?_)
            clear hK K
            try simp only [Act.put, List.setIfInBounds_toArray, List.set_cons_zero, List.set_cons_succ]
            generalize (W27.setCell ⟨gc, 0, none⟩ (.slice Z.An Z.g.ns.length Z.cn)).setCell ⟨gc, 1, none⟩ (.slice Z.Ae Z.g.es.length Z.ce) = W28 at *
            refine wpAnyH_ready (rs := [13]) (by kernel_rfl) (by simp) ?_
            refine AllReadyH.cons (oper_at (r := _) rfl) (fun K hK => ?_) AllReadyH.nil
            have fr0 := O_W28.out.free 0
            have fr1 := O_W28.out.free 1
            obtain ⟨e0, e1⟩ := O_W28.out.cells
            go_simp
            clear fr0 fr1 e0 e1
            have WD_W29 := Lib.hid ((WD_W28.out.setCell (p := ⟨go, 0, none⟩) (by show wd.heap.size ≤ go; omega) (.slice Z.Mn Z.m.ns.length Z.mn)).setCell (p := ⟨go, 1, none⟩) (by show wd.heap.size ≤ go; omega) (.slice Z.Me Z.m.es.length Z.me))
            have O_W29 := Lib.hid (O_W28.out.put (.slice Z.Mn Z.m.ns.length Z.mn) (.slice Z.Me Z.m.es.length Z.me))
            have C_W29 := Lib.hid (C_W28.out.far ngogc (.slice Z.Mn Z.m.ns.length Z.mn) (.slice Z.Me Z.m.es.length Z.me))
            have Z_W29 := Lib.hid (Z_W28.out.box (w' := (W28.setCell ⟨go, 0, none⟩ (.slice Z.Mn Z.m.ns.length Z.mn)).setCell ⟨go, 1, none⟩ (.slice Z.Me Z.m.es.length Z.me)) O_W28.out HSL.out (fun i hi => (heap_setCell_other _ _ _ _ hi).trans (heap_setCell_other _ _ _ _ hi)) (by simp))
            clear WD_W28 O_W28 C_W28 Z_W28
            refine hK.out _ _ (HM.out _ WD_W29.out) (fun _ => ?_)
            clear hK K
            try simp only [Act.put, List.setIfInBounds_toArray, List.set_cons_zero, List.set_cons_succ]
            generalize (W28.setCell ⟨go, 0, none⟩ (.slice Z.Mn Z.m.ns.length Z.mn)).setCell ⟨go, 1, none⟩ (.slice Z.Me Z.m.es.length Z.me) = W29 at *
            refine wpAnyH_done (by kernel_rfl) ?_ _
            refine NoPanic.normal ?_
            go_wp2_with fail
            go_meet
            exact ⟨gc, go, Z, rfl, rfl, C_W29.out, O_W29.out, Z_W29.out, HKZ.out, HVD.out.trans (WD_W29.out.mono HVD.out.size)⟩
      · skip
        obtain ⟨gc, hg⟩ : ∃ g, g = W1.heap.size := ⟨_, rfl⟩
        have lgc : wd.heap.size ≤ gc := by rw [hg]; exact WD_W1.out.size
        have hx : BX gc (.slice none 0 0) (.slice none 0 0) 25 (W1.alloc (.cells #[.slice none 0 0, .slice none 0 0] 25)) := by rw [hg]; exact heap_alloc_new _ _
        have hb : Below W1.heap.size W1 (W1.alloc (.cells #[.slice none 0 0, .slice none 0 0] 25)) := (Below.refl _ _).alloc (Nat.le_refl _) _
        have WD_W30 := Lib.hid (WD_W1.out.trans (hb.mono WD_W1.out.size))
        have V3_W30 := Lib.hid (OwnE.below V3_W1.out hb (Nat.le_refl _))
        clear WD_W1 V3_W1
        have C_W30 := Lib.hid hx
        clear hx hb
        go_simp
        refine hK.out _ _ (HM.out _ WD_W30.out) (fun _ => ?_)
        clear hK K
        try simp only [Act.put, List.setIfInBounds_toArray, List.set_cons_zero, List.set_cons_succ]
        generalize W1.alloc (.cells #[.slice none 0 0, .slice none 0 0] 25) = W30 at *
        try rw [← hg]
        clear hg
        refine wpAnyH_ready (rs := [5, 11]) (by kernel_rfl) (by simp) ?_
        refine (AllReadyH.cons (oper_at (r := _) rfl) (fun K hK => ?_) (AllReadyH.cons (oper_at (r := _) rfl) (fun K hK => ?_) AllReadyH.nil))
        · skip
          refine step_append_many (E := EBy) (by rfl) _ _ 53 5 (by rfl) Tryd.underlying53 infoBy rfl (by decide) (by decide) wd.heap.size v3 y (by rfl) V3_W30.out Ax x.length cx W30.heap.size x (by rfl) rfl (HXR.out W30 (HSD.out.1.trans (WD_W30.out.mono HSD.out.1.size))) (by have := HXL.out; omega) (by have := HXL.out; omega) WD_W30.out.size ?_
          intro v5 W31 ho hgr hb _
          have C_W31 := Lib.hid ((hgr.block gc C_W30.out.lt (ownsRow_far V3_W30.out C_W30.out (by decide)).symm).trans C_W30.out)
          have C_W31 : Hid (BX gc (.slice none 0 0) (.slice none 0 0) 25 W31) := C_W31
          have WD_W31 := Lib.hid (WD_W30.out.trans hb)
          have V5_W31 := Lib.hid ho
          clear ho hgr hb
          refine hK.out _ _ (HM.out _ WD_W31.out) (fun _ => ?_)
          clear hK K
          try simp only [Act.put, List.setIfInBounds_toArray, List.set_cons_zero, List.set_cons_succ]
          refine wpAnyH_ready (rs := [6, 11]) (by kernel_rfl) (by simp) ?_
          refine (AllReadyH.cons (oper_at (r := _) rfl) (fun K hK => ?_) (AllReadyH.cons (oper_at (r := _) rfl) (fun K hK => ?_) AllReadyH.nil))
          · skip
            go_simp
            refine (HIM.out _ (HYD.out.up WD_W31.out) v5 _ V5_W31.out).mono ?_
            rintro e W32 ⟨⟨Z, rfl, hz, hk⟩, hb⟩
            have WD_W32 := Lib.hid (WD_W31.out.trans (hb.mono WD_W31.out.size))
            have C_W32 := Lib.hid (C_W31.out.up hb)
            clear WD_W31 C_W31
            have Z_W32 := Lib.hid hz
            have HKZ := Lib.hid hk
            clear hb hz hk
            go_wp2_with fail
            refine hK.out _ _ (HM.out _ WD_W32.out) (fun _ => ?_)
            clear hK K
            try simp only [Act.put, List.setIfInBounds_toArray, List.set_cons_zero, List.set_cons_succ]
            refine wpAnyH_take (i := 7) (v := ?_) (oper_at (r := _) rfl) (by kernel_rfl) (by kernel_rfl) (by kernel_rfl) (fun _ _ _ h => h) (Or.inl ⟨by rfl, ?_⟩) (by assumption) ?_
            rotate_left
            · intro w hSw; try dsimp only at hSw
              go_simp
              try with_reducible rfl
            try simp only [Act.put, List.setIfInBounds_toArray, List.set_cons_zero, List.set_cons_succ]
            refine wpAnyH_take (i := 8) (v := ?_) (oper_at (r := _) rfl) (by kernel_rfl) (by kernel_rfl) (by kernel_rfl) (fun _ _ _ h => h) (Or.inl ⟨by rfl, ?_⟩) (by assumption) ?_
            rotate_left
            · intro w hSw; try dsimp only at hSw
              go_simp
              try with_reducible rfl
            try simp only [Act.put, List.setIfInBounds_toArray, List.set_cons_zero, List.set_cons_succ]
            refine wpAnyH_take (i := 9) (v := ?_) (oper_at (r := _) rfl) (by kernel_rfl) (by kernel_rfl) (by kernel_rfl) (fun _ _ _ h => h) (Or.inl ⟨by rfl, ?_⟩) (by assumption) ?_
            rotate_left
            · intro w hSw; try dsimp only at hSw
              go_simp
              try with_reducible rfl
            try simp only [Act.put, List.setIfInBounds_toArray, List.set_cons_zero, List.set_cons_succ]
            refine wpAnyH_ready (rs := [11]) (by kernel_rfl) (by simp) ?_
            refine AllReadyH.cons (oper_at (r := _) rfl) (fun K hK => ?_) AllReadyH.nil
            obtain ⟨go, hg⟩ : ∃ g, g = W32.heap.size := ⟨_, rfl⟩
            have lgo : wd.heap.size ≤ go := by rw [hg]; exact WD_W32.out.size
            have ngogc : gc ≠ go := by have := C_W32.out.lt; omega
            have ngcgo : go ≠ gc := Ne.symm ngogc
            have hx : BX go (.slice none 0 0) (.slice none 0 0) 27 (W32.alloc (.cells #[.slice none 0 0, .slice none 0 0] 27)) := by rw [hg]; exact heap_alloc_new _ _
            have hb : Below W32.heap.size W32 (W32.alloc (.cells #[.slice none 0 0, .slice none 0 0] 27)) := (Below.refl _ _).alloc (Nat.le_refl _) _
            have WD_W33 := Lib.hid (WD_W32.out.trans (hb.mono WD_W32.out.size))
            have C_W33 := Lib.hid (C_W32.out.up hb)
            have Z_W33 := Lib.hid (Z_W32.out.up hb)
            clear WD_W32 C_W32 Z_W32
            have O_W33 := Lib.hid hx
            clear hx hb
            go_simp
            refine hK.out _ _ (HM.out _ WD_W33.out) (fun _ => ?_)
            clear hK K
            try simp only [Act.put, List.setIfInBounds_toArray, List.set_cons_zero, List.set_cons_succ]
            generalize W32.alloc (.cells #[.slice none 0 0, .slice none 0 0] 27) = W33 at *
            try rw [← hg]
            clear hg
            refine wpAnyH_ready (rs := [12]) (by kernel_rfl) (by simp) ?_
            refine AllReadyH.cons (oper_at (r := _) rfl) (fun K hK => ?_) AllReadyH.nil
            have fr0 := C_W33.out.free 0
            have fr1 := C_W33.out.free 1
            obtain ⟨e0, e1⟩ := C_W33.out.cells
            go_simp
            clear fr0 fr1 e0 e1
            have WD_W34 := Lib.hid ((WD_W33.out.setCell (p := ⟨gc, 0, none⟩) (by show wd.heap.size ≤ gc; omega) (.slice Z.An Z.g.ns.length Z.cn)).setCell (p := ⟨gc, 1, none⟩) (by show wd.heap.size ≤ gc; omega) (.slice Z.Ae Z.g.es.length Z.ce))
            have C_W34 := Lib.hid (C_W33.out.put (.slice Z.An Z.g.ns.length Z.cn) (.slice Z.Ae Z.g.es.length Z.ce))
            have Z_W34 := Lib.hid (Z_W33.out.box (w' := (W33.setCell ⟨gc, 0, none⟩ (.slice Z.An Z.g.ns.length Z.cn)).setCell ⟨gc, 1, none⟩ (.slice Z.Ae Z.g.es.length Z.ce)) C_W33.out HSL.out (fun i hi => (heap_setCell_other _ _ _ _ hi).trans (heap_setCell_other _ _ _ _ hi)) (by simp))
            have O_W34 := Lib.hid (O_W33.out.far ngcgo (.slice Z.An Z.g.ns.length Z.cn) (.slice Z.Ae Z.g.es.length Z.ce))
            clear WD_W33 C_W33 Z_W33 O_W33
            refine hK.out _ _ (HM.out _ WD_W34.out) (fun _ => ?_)
            clear hK K
            try simp only [Act.put, List.setIfInBounds_toArray, List.set_cons_zero, List.set_cons_succ]
            generalize (W33.setCell ⟨gc, 0, none⟩ (.slice Z.An Z.g.ns.length Z.cn)).setCell ⟨gc, 1, none⟩ (.slice Z.Ae Z.g.es.length Z.ce) = W34 at *
            refine wpAnyH_ready (rs := [13]) (by kernel_rfl) (by simp) ?_
            refine AllReadyH.cons (oper_at (r := _) rfl) (fun K hK => ?_) AllReadyH.nil
            have fr0 := O_W34.out.free 0
            have fr1 := O_W34.out.free 1
            obtain ⟨e0, e1⟩ := O_W34.out.cells
            go_simp
            clear fr0 fr1 e0 e1
            have WD_W35 := Lib.hid ((WD_W34.out.setCell (p := ⟨go, 0, none⟩) (by show wd.heap.size ≤ go; omega) (.slice Z.Mn Z.m.ns.length Z.mn)).setCell (p := ⟨go, 1, none⟩) (by show wd.heap.size ≤ go; omega) (.slice Z.Me Z.m.es.length Z.me))
            have C_W35 := Lib.hid (C_W34.out.far ngogc (.slice Z.Mn Z.m.ns.length Z.mn) (.slice Z.Me Z.m.es.length Z.me))
            have Z_W35 := Lib.hid (Z_W34.out.box (w' := (W34.setCell ⟨go, 0, none⟩ (.slice Z.Mn Z.m.ns.length Z.mn)).setCell ⟨go, 1, none⟩ (.slice Z.Me Z.m.es.length Z.me)) O_W34.out HSL.out (fun i hi => (heap_setCell_other _ _ _ _ hi).trans (heap_setCell_other _ _ _ _ hi)) (by simp))
            have O_W35 := Lib.hid (O_W34.out.put (.slice Z.Mn Z.m.ns.length Z.mn) (.slice Z.Me Z.m.es.length Z.me))
            clear WD_W34 C_W34 Z_W34 O_W34
            refine hK.out _ _ (HM.out _ WD_W35.out) (fun _ => ?_)
            clear hK K
            try simp only [Act.put, List.setIfInBounds_toArray, List.set_cons_zero, List.set_cons_succ]
            generalize (W34.setCell ⟨go, 0, none⟩ (.slice Z.Mn Z.m.ns.length Z.mn)).setCell ⟨go, 1, none⟩ (.slice Z.Me Z.m.es.length Z.me) = W35 at *
            refine wpAnyH_done (by kernel_rfl) ?_ _
            refine NoPanic.normal ?_
            go_wp2_with fail
            go_meet
            exact ⟨gc, go, Z, rfl, rfl, C_W35.out, O_W35.out, Z_W35.out, HKZ.out, HVD.out.trans (WD_W35.out.mono HVD.out.size)⟩
          · skip
            obtain ⟨go, hg⟩ : ∃ g, g = W31.heap.size := ⟨_, rfl⟩
            have lgo : wd.heap.size ≤ go := by rw [hg]; exact WD_W31.out.size
            have ngogc : gc ≠ go := by have := C_W31.out.lt; omega
            have ngcgo : go ≠ gc := Ne.symm ngogc
            have hx : BX go (.slice none 0 0) (.slice none 0 0) 27 (W31.alloc (.cells #[.slice none 0 0, .slice none 0 0] 27)) := by rw [hg]; exact heap_alloc_new _ _
            have hb : Below W31.heap.size W31 (W31.alloc (.cells #[.slice none 0 0, .slice none 0 0] 27)) := (Below.refl _ _).alloc (Nat.le_refl _) _
            have WD_W36 := Lib.hid (WD_W31.out.trans (hb.mono WD_W31.out.size))
            have C_W36 := Lib.hid (C_W31.out.up hb)
            have V5_W36 := Lib.hid (OwnE.below V5_W31.out hb (Nat.le_refl _))
            clear WD_W31 C_W31 V5_W31
            have O_W36 := Lib.hid hx
            clear hx hb
            go_simp
            refine hK.out _ _ (HM.out _ WD_W36.out) (fun _ => ?_)
            clear hK K
            try simp only [Act.put, List.setIfInBounds_toArray, List.set_cons_zero, List.set_cons_succ]
            generalize W31.alloc (.cells #[.slice none 0 0, .slice none 0 0] 27) = W36 at *
            try rw [← hg]
            clear hg
            refine wpAnyH_ready (rs := [6]) (by kernel_rfl) (by simp) ?_
            refine AllReadyH.cons (oper_at (r := _) rfl) (fun K hK => ?_) AllReadyH.nil
            go_simp
            refine (HIM.out _ (HYD.out.up WD_W36.out) v5 _ V5_W36.out).mono ?_
            rintro e W37 ⟨⟨Z, rfl, hz, hk⟩, hb⟩
            have WD_W37 := Lib.hid (WD_W36.out.trans (hb.mono WD_W36.out.size))
            have C_W37 := Lib.hid (C_W36.out.up hb)
            have O_W37 := Lib.hid (O_W36.out.up hb)
            clear WD_W36 C_W36 O_W36
            have Z_W37 := Lib.hid hz
            have HKZ := Lib.hid hk
            clear hb hz hk
            go_wp2_with fail
            refine hK.out _ _ (HM.out _ WD_W37.out) (fun _ => ?_)
            clear hK K
            try simp only [Act.put, List.setIfInBounds_toArray, List.set_cons_zero, List.set_cons_succ]
            refine wpAnyH_take (i := 7) (v := ?_) (oper_at (r := _) rfl) (by kernel_rfl) (by kernel_rfl) (by kernel_rfl) (fun _ _ _ h => h) (Or.inl ⟨by rfl, ?_⟩) (by assumption) ?_
            rotate_left
            · intro w hSw; try dsimp only at hSw
              go_simp
              try with_reducible rfl
            try simp only [Act.put, List.setIfInBounds_toArray, List.set_cons_zero, List.set_cons_succ]
            refine wpAnyH_take (i := 8) (v := ?_) (oper_at (r := _) rfl) (by kernel_rfl) (by kernel_rfl) (by kernel_rfl) (fun _ _ _ h => h) (Or.inl ⟨by rfl, ?_⟩) (by assumption) ?_
            rotate_left
            · intro w hSw; try dsimp only at hSw
              go_simp
              try with_reducible rfl
            try simp only [Act.put, List.setIfInBounds_toArray, List.set_cons_zero, List.set_cons_succ]
            refine wpAnyH_take (i := 9) (v := ?_) (oper_at (r := _) rfl) (by kernel_rfl) (by kernel_rfl) (by kernel_rfl) (fun _ _ _ h => h) (Or.inl ⟨by rfl, ?_⟩) (by assumption) ?_
            rotate_left
            · intro w hSw; try dsimp only at hSw
              go_simp
              try with_reducible rfl
            try simp only [Act.put, List.setIfInBounds_toArray, List.set_cons_zero, List.set_cons_succ]
            refine wpAnyH_ready (rs := [12]) (by kernel_rfl) (by simp) ?_
            refine AllReadyH.cons (oper_at (r := _) rfl) (fun K hK => ?_) AllReadyH.nil
            have fr0 := C_W37.out.free 0
            have fr1 := C_W37.out.free 1
            obtain ⟨e0, e1⟩ := C_W37.out.cells
            go_simp
            clear fr0 fr1 e0 e1
            have WD_W38 := Lib.hid ((WD_W37.out.setCell (p := ⟨gc, 0, none⟩) (by show wd.heap.size ≤ gc; omega) (.slice Z.An Z.g.ns.length Z.cn)).setCell (p := ⟨gc, 1, none⟩) (by show wd.heap.size ≤ gc; omega) (.slice Z.Ae Z.g.es.length Z.ce))
            have C_W38 := Lib.hid (C_W37.out.put (.slice Z.An Z.g.ns.length Z.cn) (.slice Z.Ae Z.g.es.length Z.ce))
            have O_W38 := Lib.hid (O_W37.out.far ngcgo (.slice Z.An Z.g.ns.length Z.cn) (.slice Z.Ae Z.g.es.length Z.ce))
            have Z_W38 := Lib.hid (Z_W37.out.box (w' := (W37.setCell ⟨gc, 0, none⟩ (.slice Z.An Z.g.ns.length Z.cn)).setCell ⟨gc, 1, none⟩ (.slice Z.Ae Z.g.es.length Z.ce)) C_W37.out HSL.out (fun i hi => (heap_setCell_other _ _ _ _ hi).trans (heap_setCell_other _ _ _ _ hi)) (by simp))
            clear WD_W37 C_W37 O_W37 Z_W37
            refine hK.out _ _ (HM.out _ WD_W38.out) (fun _ => ?_)
            clear hK K
            try simp only [Act.put, List.setIfInBounds_toArray, List.set_cons_zero, List.set_cons_succ]
            generalize (W37.setCell ⟨gc, 0, none⟩ (.slice Z.An Z.g.ns.length Z.cn)).setCell ⟨gc, 1, none⟩ (.slice Z.Ae Z.g.es.length Z.ce) = W38 at *
            refine wpAnyH_ready (rs := [13]) (by kernel_rfl) (by simp) ?_
            refine AllReadyH.cons (oper_at (r := _) rfl) (fun K hK => ?_) AllReadyH.nil
            have fr0 := O_W38.out.free 0
            have fr1 := O_W38.out.free 1
            obtain ⟨e0, e1⟩ := O_W38.out.cells
            go_simp
            clear fr0 fr1 e0 e1
            have WD_W39 := Lib.hid ((WD_W38.out.setCell (p := ⟨go, 0, none⟩) (by show wd.heap.size ≤ go; omega) (.slice Z.Mn Z.m.ns.length Z.mn)).setCell (p := ⟨go, 1, none⟩) (by show wd.heap.size ≤ go; omega) (.slice Z.Me Z.m.es.length Z.me))
            have C_W39 := Lib.hid (C_W38.out.far ngogc (.slice Z.Mn Z.m.ns.length Z.mn) (.slice Z.Me Z.m.es.length Z.me))
            have O_W39 := Lib.hid (O_W38.out.put (.slice Z.Mn Z.m.ns.length Z.mn) (.slice Z.Me Z.m.es.length Z.me))
            have Z_W39 := Lib.hid (Z_W38.out.box (w' := (W38.setCell ⟨go, 0, none⟩ (.slice Z.Mn Z.m.ns.length Z.mn)).setCell ⟨go, 1, none⟩ (.slice Z.Me Z.m.es.length Z.me)) O_W38.out HSL.out (fun i hi => (heap_setCell_other _ _ _ _ hi).trans (heap_setCell_other _ _ _ _ hi)) (by simp))
            clear WD_W38 C_W38 O_W38 Z_W38
            refine hK.out _ _ (HM.out _ WD_W39.out) (fun _ => ?_)
            clear hK K
            try simp only [Act.put, List.setIfInBounds_toArray, List.set_cons_zero, List.set_cons_succ]
            generalize (W38.setCell ⟨go, 0, none⟩ (.slice Z.Mn Z.m.ns.length Z.mn)).setCell ⟨go, 1, none⟩ (.slice Z.Me Z.m.es.length Z.me) = W39 at *
            refine wpAnyH_done (by kernel_rfl) ?_ _
            refine NoPanic.normal ?_
            go_wp2_with fail
            go_meet
            exact ⟨gc, go, Z, rfl, rfl, C_W39.out, O_W39.out, Z_W39.out, HKZ.out, HVD.out.trans (WD_W39.out.mono HVD.out.size)⟩
        · skip
          obtain ⟨go, hg⟩ : ∃ g, g = W30.heap.size := ⟨_, rfl⟩
          have lgo : wd.heap.size ≤ go := by rw [hg]; exact WD_W30.out.size
          have ngogc : gc ≠ go := by have := C_W30.out.lt; omega
          have ngcgo : go ≠ gc := Ne.symm ngogc
          have hx : BX go (.slice none 0 0) (.slice none 0 0) 27 (W30.alloc (.cells #[.slice none 0 0, .slice none 0 0] 27)) := by rw [hg]; exact heap_alloc_new _ _
          have hb : Below W30.heap.size W30 (W30.alloc (.cells #[.slice none 0 0, .slice none 0 0] 27)) := (Below.refl _ _).alloc (Nat.le_refl _) _
          have WD_W40 := Lib.hid (WD_W30.out.trans (hb.mono WD_W30.out.size))
          have V3_W40 := Lib.hid (OwnE.below V3_W30.out hb (Nat.le_refl _))
          have C_W40 := Lib.hid (C_W30.out.up hb)
          clear WD_W30 V3_W30 C_W30
          have O_W40 := Lib.hid hx
          clear hx hb
          go_simp
          refine hK.out _ _ (HM.out _ WD_W40.out) (fun _ => ?_)
          clear hK K
          try simp only [Act.put, List.setIfInBounds_toArray, List.set_cons_zero, List.set_cons_succ]
          generalize W30.alloc (.cells #[.slice none 0 0, .slice none 0 0] 27) = W40 at *
          try rw [← hg]
          clear hg
          refine wpAnyH_ready (rs := [5]) (by kernel_rfl) (by simp) ?_
          refine AllReadyH.cons (oper_at (r := _) rfl) (fun K hK => ?_) AllReadyH.nil
          refine step_append_many (E := EBy) (by rfl) _ _ 53 5 (by rfl) Tryd.underlying53 infoBy rfl (by decide) (by decide) wd.heap.size v3 y (by rfl) V3_W40.out Ax x.length cx W40.heap.size x (by rfl) rfl (HXR.out W40 (HSD.out.1.trans (WD_W40.out.mono HSD.out.1.size))) (by have := HXL.out; omega) (by have := HXL.out; omega) WD_W40.out.size ?_
          intro v5 W41 ho hgr hb _
          have C_W41 := Lib.hid ((hgr.block gc C_W40.out.lt (ownsRow_far V3_W40.out C_W40.out (by decide)).symm).trans C_W40.out)
          have C_W41 : Hid (BX gc (.slice none 0 0) (.slice none 0 0) 25 W41) := C_W41
          have O_W41 := Lib.hid ((hgr.block go O_W40.out.lt (ownsRow_far V3_W40.out O_W40.out (by decide)).symm).trans O_W40.out)
          have O_W41 : Hid (BX go (.slice none 0 0) (.slice none 0 0) 27 W41) := O_W41
          have WD_W41 := Lib.hid (WD_W40.out.trans hb)
          have V5_W41 := Lib.hid ho
          clear ho hgr hb
          refine hK.out _ _ (HM.out _ WD_W41.out) (fun _ => ?_)
          clear hK K
          try simp only [Act.put, List.setIfInBounds_toArray, List.set_cons_zero, List.set_cons_succ]
          refine wpAnyH_ready (rs := [6]) (by kernel_rfl) (by simp) ?_
          refine AllReadyH.cons (oper_at (r := _) rfl) (fun K hK => ?_) AllReadyH.nil
          go_simp
          refine (HIM.out _ (HYD.out.up WD_W41.out) v5 _ V5_W41.out).mono ?_
          rintro e W42 ⟨⟨Z, rfl, hz, hk⟩, hb⟩
          have WD_W42 := Lib.hid (WD_W41.out.trans (hb.mono WD_W41.out.size))
          have C_W42 := Lib.hid (C_W41.out.up hb)
          have O_W42 := Lib.hid (O_W41.out.up hb)
          clear WD_W41 C_W41 O_W41
          have Z_W42 := Lib.hid hz
          have HKZ := Lib.hid hk
          clear hb hz hk
          go_wp2_with fail
          refine hK.out _ _ (HM.out _ WD_W42.out) (fun _ => ?_)
          clear hK K
          try simp only [Act.put, List.setIfInBounds_toArray, List.set_cons_zero, List.set_cons_succ]
          refine wpAnyH_take (i := 7) (v := ?_) (oper_at (r := _) rfl) (by kernel_rfl) (by kernel_rfl) (by kernel_rfl) (fun _ _ _ h => h) (Or.inl ⟨by rfl, ?_⟩) (by assumption) ?_
          rotate_left
          · intro w hSw; try dsimp only at hSw
            go_simp
            try with_reducible rfl
          try simp only [Act.put, List.setIfInBounds_toArray, List.set_cons_zero, List.set_cons_succ]
          refine wpAnyH_take (i := 8) (v := ?_) (oper_at (r := _) rfl) (by kernel_rfl) (by kernel_rfl) (by kernel_rfl) (fun _ _ _ h => h) (Or.inl ⟨by rfl, ?_⟩) (by assumption) ?_
          rotate_left
          · intro w hSw; try dsimp only at hSw
            go_simp
            try with_reducible rfl
          try simp only [Act.put, List.setIfInBounds_toArray, List.set_cons_zero, List.set_cons_succ]
          refine wpAnyH_take (i := 9) (v := ?_) (oper_at (r := _) rfl) (by kernel_rfl) (by kernel_rfl) (by kernel_rfl) (fun _ _ _ h => h) (Or.inl ⟨by rfl, ?_⟩) (by assumption) ?_
          rotate_left
          · intro w hSw; try dsimp only at hSw
            go_simp
            try with_reducible rfl
          try simp only [Act.put, List.setIfInBounds_toArray, List.set_cons_zero, List.set_cons_succ]
          refine wpAnyH_ready (rs := [12]) (by kernel_rfl) (by simp) ?_
          refine AllReadyH.cons (oper_at (r := _) rfl) (fun K hK => ?_) AllReadyH.nil
          have fr0 := C_W42.out.free 0
          have fr1 := C_W42.out.free 1
          obtain ⟨e0, e1⟩ := C_W42.out.cells
          go_simp
          clear fr0 fr1 e0 e1
          have WD_W43 := Lib.hid ((WD_W42.out.setCell (p := ⟨gc, 0, none⟩) (by show wd.heap.size ≤ gc; omega) (.slice Z.An Z.g.ns.length Z.cn)).setCell (p := ⟨gc, 1, none⟩) (by show wd.heap.size ≤ gc; omega) (.slice Z.Ae Z.g.es.length Z.ce))
          have C_W43 := Lib.hid (C_W42.out.put (.slice Z.An Z.g.ns.length Z.cn) (.slice Z.Ae Z.g.es.length Z.ce))
          have O_W43 := Lib.hid (O_W42.out.far ngcgo (.slice Z.An Z.g.ns.length Z.cn) (.slice Z.Ae Z.g.es.length Z.ce))
          have Z_W43 := Lib.hid (Z_W42.out.box (w' := (W42.setCell ⟨gc, 0, none⟩ (.slice Z.An Z.g.ns.length Z.cn)).setCell ⟨gc, 1, none⟩ (.slice Z.Ae Z.g.es.length Z.ce)) C_W42.out HSL.out (fun i hi => (heap_setCell_other _ _ _ _ hi).trans (heap_setCell_other _ _ _ _ hi)) (by simp))
          clear WD_W42 C_W42 O_W42 Z_W42
          refine hK.out _ _ (HM.out _ WD_W43.out) (fun _ => ?_)
          clear hK K
          try simp only [Act.put, List.setIfInBounds_toArray, List.set_cons_zero, List.set_cons_succ]
          generalize (W42.setCell ⟨gc, 0, none⟩ (.slice Z.An Z.g.ns.length Z.cn)).setCell ⟨gc, 1, none⟩ (.slice Z.Ae Z.g.es.length Z.ce) = W43 at *
          refine wpAnyH_ready (rs := [13]) (by kernel_rfl) (by simp) ?_
          refine AllReadyH.cons (oper_at (r := _) rfl) (fun K hK => ?_) AllReadyH.nil
          have fr0 := O_W43.out.free 0
          have fr1 := O_W43.out.free 1
          obtain ⟨e0, e1⟩ := O_W43.out.cells
          go_simp
          clear fr0 fr1 e0 e1
          have WD_W44 := Lib.hid ((WD_W43.out.setCell (p := ⟨go, 0, none⟩) (by show wd.heap.size ≤ go; omega) (.slice Z.Mn Z.m.ns.length Z.mn)).setCell (p := ⟨go, 1, none⟩) (by show wd.heap.size ≤ go; omega) (.slice Z.Me Z.m.es.length Z.me))
          have C_W44 := Lib.hid (C_W43.out.far ngogc (.slice Z.Mn Z.m.ns.length Z.mn) (.slice Z.Me Z.m.es.length Z.me))
          have O_W44 := Lib.hid (O_W43.out.put (.slice Z.Mn Z.m.ns.length Z.mn) (.slice Z.Me Z.m.es.length Z.me))
          have Z_W44 := Lib.hid (Z_W43.out.box (w' := (W43.setCell ⟨go, 0, none⟩ (.slice Z.Mn Z.m.ns.length Z.mn)).setCell ⟨go, 1, none⟩ (.slice Z.Me Z.m.es.length Z.me)) O_W43.out HSL.out (fun i hi => (heap_setCell_other _ _ _ _ hi).trans (heap_setCell_other _ _ _ _ hi)) (by simp))
          clear WD_W43 C_W43 O_W43 Z_W43
          refine hK.out _ _ (HM.out _ WD_W44.out) (fun _ => ?_)
          clear hK K
          try simp only [Act.put, List.setIfInBounds_toArray, List.set_cons_zero, List.set_cons_succ]
          generalize (W43.setCell ⟨go, 0, none⟩ (.slice Z.Mn Z.m.ns.length Z.mn)).setCell ⟨go, 1, none⟩ (.slice Z.Me Z.m.es.length Z.me) = W44 at *
          refine wpAnyH_done (by kernel_rfl) ?_ _
          refine NoPanic.normal ?_
          go_wp2_with fail
          go_meet
          exact ⟨gc, go, Z, rfl, rfl, C_W44.out, O_W44.out, Z_W44.out, HKZ.out, HVD.out.trans (WD_W44.out.mono HVD.out.size)⟩
      · skip
        obtain ⟨go, hg⟩ : ∃ g, g = W1.heap.size := ⟨_, rfl⟩
        have lgo : wd.heap.size ≤ go := by rw [hg]; exact WD_W1.out.size
        have hx : BX go (.slice none 0 0) (.slice none 0 0) 27 (W1.alloc (.cells #[.slice none 0 0, .slice none 0 0] 27)) := by rw [hg]; exact heap_alloc_new _ _
        have hb : Below W1.heap.size W1 (W1.alloc (.cells #[.slice none 0 0, .slice none 0 0] 27)) := (Below.refl _ _).alloc (Nat.le_refl _) _
        have WD_W45 := Lib.hid (WD_W1.out.trans (hb.mono WD_W1.out.size))
        have V3_W45 := Lib.hid (OwnE.below V3_W1.out hb (Nat.le_refl _))
        clear WD_W1 V3_W1
        have O_W45 := Lib.hid hx
        clear hx hb
        go_simp
        refine hK.out _ _ (HM.out _ WD_W45.out) (fun _ => ?_)
        clear hK K
        try simp only [Act.put, List.setIfInBounds_toArray, List.set_cons_zero, List.set_cons_succ]
        generalize W1.alloc (.cells #[.slice none 0 0, .slice none 0 0] 27) = W45 at *
        try rw [← hg]
        clear hg
        refine wpAnyH_ready (rs := [5, 10]) (by kernel_rfl) (by simp) ?_
        refine (AllReadyH.cons (oper_at (r := _) rfl) (fun K hK => ?_) (AllReadyH.cons (oper_at (r := _) rfl) (fun K hK => ?_) AllReadyH.nil))
        · skip
          refine step_append_many (E := EBy) (by rfl) _ _ 53 5 (by rfl) Tryd.underlying53 infoBy rfl (by decide) (by decide) wd.heap.size v3 y (by rfl) V3_W45.out Ax x.length cx W45.heap.size x (by rfl) rfl (HXR.out W45 (HSD.out.1.trans (WD_W45.out.mono HSD.out.1.size))) (by have := HXL.out; omega) (by have := HXL.out; omega) WD_W45.out.size ?_
          intro v5 W46 ho hgr hb _
          have O_W46 := Lib.hid ((hgr.block go O_W45.out.lt (ownsRow_far V3_W45.out O_W45.out (by decide)).symm).trans O_W45.out)
          have O_W46 : Hid (BX go (.slice none 0 0) (.slice none 0 0) 27 W46) := O_W46
          have WD_W46 := Lib.hid (WD_W45.out.trans hb)
          have V5_W46 := Lib.hid ho
          clear ho hgr hb
          refine hK.out _ _ (HM.out _ WD_W46.out) (fun _ => ?_)
          clear hK K
          try simp only [Act.put, List.setIfInBounds_toArray, List.set_cons_zero, List.set_cons_succ]
          refine wpAnyH_ready (rs := [6, 10]) (by kernel_rfl) (by simp) ?_
          refine (AllReadyH.cons (oper_at (r := _) rfl) (fun K hK => ?_) (AllReadyH.cons (oper_at (r := _) rfl) (fun K hK => ?_) AllReadyH.nil))
          · skip
            go_simp
            refine (HIM.out _ (HYD.out.up WD_W46.out) v5 _ V5_W46.out).mono ?_
            rintro e W47 ⟨⟨Z, rfl, hz, hk⟩, hb⟩
            have WD_W47 := Lib.hid (WD_W46.out.trans (hb.mono WD_W46.out.size))
            have O_W47 := Lib.hid (O_W46.out.up hb)
            clear WD_W46 O_W46
            have Z_W47 := Lib.hid hz
            have HKZ := Lib.hid hk
            clear hb hz hk
            go_wp2_with fail
            refine hK.out _ _ (HM.out _ WD_W47.out) (fun _ => ?_)
            clear hK K
            try simp only [Act.put, List.setIfInBounds_toArray, List.set_cons_zero, List.set_cons_succ]
            refine wpAnyH_take (i := 7) (v := ?_) (oper_at (r := _) rfl) (by kernel_rfl) (by kernel_rfl) (by kernel_rfl) (fun _ _ _ h => h) (Or.inl ⟨by rfl, ?_⟩) (by assumption) ?_
            rotate_left
            · intro w hSw; try dsimp only at hSw
              go_simp
              try with_reducible rfl
            try simp only [Act.put, List.setIfInBounds_toArray, List.set_cons_zero, List.set_cons_succ]
            refine wpAnyH_take (i := 8) (v := ?_) (oper_at (r := _) rfl) (by kernel_rfl) (by kernel_rfl) (by kernel_rfl) (fun _ _ _ h => h) (Or.inl ⟨by rfl, ?_⟩) (by assumption) ?_
            rotate_left
            · intro w hSw; try dsimp only at hSw
              go_simp
              try with_reducible rfl
            try simp only [Act.put, List.setIfInBounds_toArray, List.set_cons_zero, List.set_cons_succ]
            refine wpAnyH_take (i := 9) (v := ?_) (oper_at (r := _) rfl) (by kernel_rfl) (by kernel_rfl) (by kernel_rfl) (fun _ _ _ h => h) (Or.inl ⟨by rfl, ?_⟩) (by assumption) ?_
            rotate_left
            · intro w hSw; try dsimp only at hSw
              go_simp
              try with_reducible rfl
            try simp only [Act.put, List.setIfInBounds_toArray, List.set_cons_zero, List.set_cons_succ]
            refine wpAnyH_ready (rs := [10]) (by kernel_rfl) (by simp) ?_
            refine AllReadyH.cons (oper_at (r := _) rfl) (fun K hK => ?_) AllReadyH.nil
            obtain ⟨gc, hg⟩ : ∃ g, g = W47.heap.size := ⟨_, rfl⟩
            have lgc : wd.heap.size ≤ gc := by rw [hg]; exact WD_W47.out.size
            have ngcgo : go ≠ gc := by have := O_W47.out.lt; omega
            have ngogc : gc ≠ go := Ne.symm ngcgo
            have hx : BX gc (.slice none 0 0) (.slice none 0 0) 25 (W47.alloc (.cells #[.slice none 0 0, .slice none 0 0] 25)) := by rw [hg]; exact heap_alloc_new _ _
            have hb : Below W47.heap.size W47 (W47.alloc (.cells #[.slice none 0 0, .slice none 0 0] 25)) := (Below.refl _ _).alloc (Nat.le_refl _) _
            have WD_W48 := Lib.hid (WD_W47.out.trans (hb.mono WD_W47.out.size))
            have O_W48 := Lib.hid (O_W47.out.up hb)
            have Z_W48 := Lib.hid (Z_W47.out.up hb)
            clear WD_W47 O_W47 Z_W47
            have C_W48 := Lib.hid hx
            clear hx hb
            go_simp
            refine hK.out _ _ (HM.out _ WD_W48.out) (fun _ => ?_)
            clear hK K
            try simp only [Act.put, List.setIfInBounds_toArray, List.set_cons_zero, List.set_cons_succ]
            generalize W47.alloc (.cells #[.slice none 0 0, .slice none 0 0] 25) = W48 at *
            try rw [← hg]
            clear hg
            refine wpAnyH_ready (rs := [12]) (by kernel_rfl) (by simp) ?_
            refine AllReadyH.cons (oper_at (r := _) rfl) (fun K hK => ?_) AllReadyH.nil
            have fr0 := C_W48.out.free 0
            have fr1 := C_W48.out.free 1
            obtain ⟨e0, e1⟩ := C_W48.out.cells
            go_simp
            clear fr0 fr1 e0 e1
            have WD_W49 := Lib.hid ((WD_W48.out.setCell (p := ⟨gc, 0, none⟩) (by show wd.heap.size ≤ gc; omega) (.slice Z.An Z.g.ns.length Z.cn)).setCell (p := ⟨gc, 1, none⟩) (by show wd.heap.size ≤ gc; omega) (.slice Z.Ae Z.g.es.length Z.ce))
            have O_W49 := Lib.hid (O_W48.out.far ngcgo (.slice Z.An Z.g.ns.length Z.cn) (.slice Z.Ae Z.g.es.length Z.ce))
            have Z_W49 := Lib.hid (Z_W48.out.box (w' := (W48.setCell ⟨gc, 0, none⟩ (.slice Z.An Z.g.ns.length Z.cn)).setCell ⟨gc, 1, none⟩ (.slice Z.Ae Z.g.es.length Z.ce)) C_W48.out HSL.out (fun i hi => (heap_setCell_other _ _ _ _ hi).trans (heap_setCell_other _ _ _ _ hi)) (by simp))
            have C_W49 := Lib.hid (C_W48.out.put (.slice Z.An Z.g.ns.length Z.cn) (.slice Z.Ae Z.g.es.length Z.ce))
            clear WD_W48 O_W48 Z_W48 C_W48
            refine hK.out _ _ (HM.out _ WD_W49.out) (fun _ => ?_)
            clear hK K
            try simp only [Act.put, List.setIfInBounds_toArray, List.set_cons_zero, List.set_cons_succ]
            generalize (W48.setCell ⟨gc, 0, none⟩ (.slice Z.An Z.g.ns.length Z.cn)).setCell ⟨gc, 1, none⟩ (.slice Z.Ae Z.g.es.length Z.ce) = W49 at *
            refine wpAnyH_ready (rs := [13]) (by kernel_rfl) (by simp) ?_
            refine AllReadyH.cons (oper_at (r := _) rfl) (fun K hK => ?_) AllReadyH.nil
            have fr0 := O_W49.out.free 0
            have fr1 := O_W49.out.free 1
            obtain ⟨e0, e1⟩ := O_W49.out.cells
            go_simp
            clear fr0 fr1 e0 e1
            have WD_W50 := Lib.hid ((WD_W49.out.setCell (p := ⟨go, 0, none⟩) (by show wd.heap.size ≤ go; omega) (.slice Z.Mn Z.m.ns.length Z.mn)).setCell (p := ⟨go, 1, none⟩) (by show wd.heap.size ≤ go; omega) (.slice Z.Me Z.m.es.length Z.me))
            have O_W50 := Lib.hid (O_W49.out.put (.slice Z.Mn Z.m.ns.length Z.mn) (.slice Z.Me Z.m.es.length Z.me))
            have Z_W50 := Lib.hid (Z_W49.out.box (w' := (W49.setCell ⟨go, 0, none⟩ (.slice Z.Mn Z.m.ns.length Z.mn)).setCell ⟨go, 1, none⟩ (.slice Z.Me Z.m.es.length Z.me)) O_W49.out HSL.out (fun i hi => (heap_setCell_other _ _ _ _ hi).trans (heap_setCell_other _ _ _ _ hi)) (by simp))
            have C_W50 := Lib.hid (C_W49.out.far ngogc (.slice Z.Mn Z.m.ns.length Z.mn) (.slice Z.Me Z.m.es.length Z.me))
            clear WD_W49 O_W49 Z_W49 C_W49
            refine hK.out _ _ (HM.out _ WD_W50.out) (fun _ => ?_)
            clear hK K
            try simp only [Act.put, List.setIfInBounds_toArray, List.set_cons_zero, List.set_cons_succ]
            generalize (W49.setCell ⟨go, 0, none⟩ (.slice Z.Mn Z.m.ns.length Z.mn)).setCell ⟨go, 1, none⟩ (.slice Z.Me Z.m.es.length Z.me) = W50 at *
            refine wpAnyH_done (by kernel_rfl) ?_ _
            refine NoPanic.normal ?_
            go_wp2_with fail
            go_meet
            exact ⟨gc, go, Z, rfl, rfl, C_W50.out, O_W50.out, Z_W50.out, HKZ.out, HVD.out.trans (WD_W50.out.mono HVD.out.size)⟩
          · skip
            obtain ⟨gc, hg⟩ : ∃ g, g = W46.heap.size := ⟨_, rfl⟩
            have lgc : wd.heap.size ≤ gc := by rw [hg]; exact WD_W46.out.size
            have ngcgo : go ≠ gc := by have := O_W46.out.lt; omega
            have ngogc : gc ≠ go := Ne.symm ngcgo
            have hx : BX gc (.slice none 0 0) (.slice none 0 0) 25 (W46.alloc (.cells #[.slice none 0 0, .slice none 0 0] 25)) := by rw [hg]; exact heap_alloc_new _ _
            have hb : Below W46.heap.size W46 (W46.alloc (.cells #[.slice none 0 0, .slice none 0 0] 25)) := (Below.refl _ _).alloc (Nat.le_refl _) _
            have WD_W51 := Lib.hid (WD_W46.out.trans (hb.mono WD_W46.out.size))
            have O_W51 := Lib.hid (O_W46.out.up hb)
            have V5_W51 := Lib.hid (OwnE.below V5_W46.out hb (Nat.le_refl _))
            clear WD_W46 O_W46 V5_W46
            have C_W51 := Lib.hid hx
            clear hx hb
            go_simp
            refine hK.out _ _ (HM.out _ WD_W51.out) (fun _ => ?_)
            clear hK K
            try simp only [Act.put, List.setIfInBounds_toArray, List.set_cons_zero, List.set_cons_succ]
            generalize W46.alloc (.cells #[.slice none 0 0, .slice none 0 0] 25) = W51 at *
            try rw [← hg]
            clear hg
            refine wpAnyH_ready (rs := [6]) (by kernel_rfl) (by simp) ?_
            refine AllReadyH.cons (oper_at (r := _) rfl) (fun K hK => ?_) AllReadyH.nil
            go_simp
            refine (HIM.out _ (HYD.out.up WD_W51.out) v5 _ V5_W51.out).mono ?_
            rintro e W52 ⟨⟨Z, rfl, hz, hk⟩, hb⟩
            have WD_W52 := Lib.hid (WD_W51.out.trans (hb.mono WD_W51.out.size))
            have O_W52 := Lib.hid (O_W51.out.up hb)
            have C_W52 := Lib.hid (C_W51.out.up hb)
            clear WD_W51 O_W51 C_W51
            have Z_W52 := Lib.hid hz
            have HKZ := Lib.hid hk
            clear hb hz hk
            go_wp2_with fail
            refine hK.out _ _ (HM.out _ WD_W52.out) (fun _ => ?_)
            clear hK K
            try simp only [Act.put, List.setIfInBounds_toArray, List.set_cons_zero, List.set_cons_succ]
            refine wpAnyH_take (i := 7) (v := ?_) (oper_at (r := _) rfl) (by kernel_rfl) (by kernel_rfl) (by kernel_rfl) (fun _ _ _ h => h) (Or.inl ⟨by rfl, ?_⟩) (by assumption) ?_
            rotate_left
            · intro w hSw; try dsimp only at hSw
              go_simp
              try with_reducible rfl
            try simp only [Act.put, List.setIfInBounds_toArray, List.set_cons_zero, List.set_cons_succ]
            refine wpAnyH_take (i := 8) (v := ?_) (oper_at (r := _) rfl) (by kernel_rfl) (by kernel_rfl) (by kernel_rfl) (fun _ _ _ h => h) (Or.inl ⟨by rfl, ?_⟩) (by assumption) ?_
            rotate_left
            · intro w hSw; try dsimp only at hSw
              go_simp
              try with_reducible rfl
            try simp only [Act.put, List.setIfInBounds_toArray, List.set_cons_zero, List.set_cons_succ]
            refine wpAnyH_take (i := 9) (v := ?_) (oper_at (r := _) rfl) (by kernel_rfl) (by kernel_rfl) (by kernel_rfl) (fun _ _ _ h => h) (Or.inl ⟨by rfl, ?_⟩) (by assumption) ?_
            rotate_left
            · intro w hSw; try dsimp only at hSw
              go_simp
              try with_reducible rfl
            try simp only [Act.put, List.setIfInBounds_toArray, List.set_cons_zero, List.set_cons_succ]
            refine wpAnyH_ready (rs := [12]) (by kernel_rfl) (by simp) ?_
            refine AllReadyH.cons (oper_at (r := _) rfl) (fun K hK => ?_) AllReadyH.nil
            have fr0 := C_W52.out.free 0
            have fr1 := C_W52.out.free 1
            obtain ⟨e0, e1⟩ := C_W52.out.cells
            go_simp
            clear fr0 fr1 e0 e1
            have WD_W53 := Lib.hid ((WD_W52.out.setCell (p := ⟨gc, 0, none⟩) (by show wd.heap.size ≤ gc; omega) (.slice Z.An Z.g.ns.length Z.cn)).setCell (p := ⟨gc, 1, none⟩) (by show wd.heap.size ≤ gc; omega) (.slice Z.Ae Z.g.es.length Z.ce))
            have O_W53 := Lib.hid (O_W52.out.far ngcgo (.slice Z.An Z.g.ns.length Z.cn) (.slice Z.Ae Z.g.es.length Z.ce))
            have C_W53 := Lib.hid (C_W52.out.put (.slice Z.An Z.g.ns.length Z.cn) (.slice Z.Ae Z.g.es.length Z.ce))
            have Z_W53 := Lib.hid (Z_W52.out.box (w' := (W52.setCell ⟨gc, 0, none⟩ (.slice Z.An Z.g.ns.length Z.cn)).setCell ⟨gc, 1, none⟩ (.slice Z.Ae Z.g.es.length Z.ce)) C_W52.out HSL.out (fun i hi => (heap_setCell_other _ _ _ _ hi).trans (heap_setCell_other _ _ _ _ hi)) (by simp))
            clear WD_W52 O_W52 C_W52 Z_W52
            refine hK.out _ _ (HM.out _ WD_W53.out) (fun _ => ?_)
            clear hK K
            try simp only [Act.put, List.setIfInBounds_toArray, List.set_cons_zero, List.set_cons_succ]
            generalize (W52.setCell ⟨gc, 0, none⟩ (.slice Z.An Z.g.ns.length Z.cn)).setCell ⟨gc, 1, none⟩ (.slice Z.Ae Z.g.es.length Z.ce) = W53 at *
            refine wpAnyH_ready (rs := [13]) (by kernel_rfl) (by simp) ?_
            refine AllReadyH.cons (oper_at (r := _) rfl) (fun K hK => ?_) AllReadyH.nil
            have fr0 := O_W53.out.free 0
            have fr1 := O_W53.out.free 1
            obtain ⟨e0, e1⟩ := O_W53.out.cells
            go_simp
            clear fr0 fr1 e0 e1
            have WD_W54 := Lib.hid ((WD_W53.out.setCell (p := ⟨go, 0, none⟩) (by show wd.heap.size ≤ go; omega) (.slice Z.Mn Z.m.ns.length Z.mn)).setCell (p := ⟨go, 1, none⟩) (by show wd.heap.size ≤ go; omega) (.slice Z.Me Z.m.es.length Z.me))
            have O_W54 := Lib.hid (O_W53.out.put (.slice Z.Mn Z.m.ns.length Z.mn) (.slice Z.Me Z.m.es.length Z.me))
            have C_W54 := Lib.hid (C_W53.out.far ngogc (.slice Z.Mn Z.m.ns.length Z.mn) (.slice Z.Me Z.m.es.length Z.me))
            have Z_W54 := Lib.hid (Z_W53.out.box (w' := (W53.setCell ⟨go, 0, none⟩ (.slice Z.Mn Z.m.ns.length Z.mn)).setCell ⟨go, 1, none⟩ (.slice Z.Me Z.m.es.length Z.me)) O_W53.out HSL.out (fun i hi => (heap_setCell_other _ _ _ _ hi).trans (heap_setCell_other _ _ _ _ hi)) (by simp))
            clear WD_W53 O_W53 C_W53 Z_W53
            refine hK.out _ _ (HM.out _ WD_W54.out) (fun _ => ?_)
            clear hK K
            try simp only [Act.put, List.setIfInBounds_toArray, List.set_cons_zero, List.set_cons_succ]
            generalize (W53.setCell ⟨go, 0, none⟩ (.slice Z.Mn Z.m.ns.length Z.mn)).setCell ⟨go, 1, none⟩ (.slice Z.Me Z.m.es.length Z.me) = W54 at *
            refine wpAnyH_done (by kernel_rfl) ?_ _
            refine NoPanic.normal ?_
            go_wp2_with fail
            go_meet
            exact ⟨gc, go, Z, rfl, rfl, C_W54.out, O_W54.out, Z_W54.out, HKZ.out, HVD.out.trans (WD_W54.out.mono HVD.out.size)⟩
        · skip
          obtain ⟨gc, hg⟩ : ∃ g, g = W45.heap.size := ⟨_, rfl⟩
          have lgc : wd.heap.size ≤ gc := by rw [hg]; exact WD_W45.out.size
          have ngcgo : go ≠ gc := by have := O_W45.out.lt; omega
          have ngogc : gc ≠ go := Ne.symm ngcgo
          have hx : BX gc (.slice none 0 0) (.slice none 0 0) 25 (W45.alloc (.cells #[.slice none 0 0, .slice none 0 0] 25)) := by rw [hg]; exact heap_alloc_new _ _
          have hb : Below W45.heap.size W45 (W45.alloc (.cells #[.slice none 0 0, .slice none 0 0] 25)) := (Below.refl _ _).alloc (Nat.le_refl _) _
          have WD_W55 := Lib.hid (WD_W45.out.trans (hb.mono WD_W45.out.size))
          have V3_W55 := Lib.hid (OwnE.below V3_W45.out hb (Nat.le_refl _))
          have O_W55 := Lib.hid (O_W45.out.up hb)
          clear WD_W45 V3_W45 O_W45
          have C_W55 := Lib.hid hx
          clear hx hb
          go_simp
          refine hK.out _ _ (HM.out _ WD_W55.out) (fun _ => ?_)
          clear hK K
          try simp only [Act.put, List.setIfInBounds_toArray, List.set_cons_zero, List.set_cons_succ]
          generalize W45.alloc (.cells #[.slice none 0 0, .slice none 0 0] 25) = W55 at *
          try rw [← hg]
          clear hg
          refine wpAnyH_ready (rs := [5]) (by kernel_rfl) (by simp) ?_
          refine AllReadyH.cons (oper_at (r := _) rfl) (fun K hK => ?_) AllReadyH.nil
          refine step_append_many (E := EBy) (by rfl) _ _ 53 5 (by rfl) Tryd.underlying53 infoBy rfl (by decide) (by decide) wd.heap.size v3 y (by rfl) V3_W55.out Ax x.length cx W55.heap.size x (by rfl) rfl (HXR.out W55 (HSD.out.1.trans (WD_W55.out.mono HSD.out.1.size))) (by have := HXL.out; omega) (by have := HXL.out; omega) WD_W55.out.size ?_
          intro v5 W56 ho hgr hb _
          have O_W56 := Lib.hid ((hgr.block go O_W55.out.lt (ownsRow_far V3_W55.out O_W55.out (by decide)).symm).trans O_W55.out)
          have O_W56 : Hid (BX go (.slice none 0 0) (.slice none 0 0) 27 W56) := O_W56
          have C_W56 := Lib.hid ((hgr.block gc C_W55.out.lt (ownsRow_far V3_W55.out C_W55.out (by decide)).symm).trans C_W55.out)
          have C_W56 : Hid (BX gc (.slice none 0 0) (.slice none 0 0) 25 W56) := C_W56
          have WD_W56 := Lib.hid (WD_W55.out.trans hb)
          have V5_W56 := Lib.hid ho
          clear ho hgr hb
          refine hK.out _ _ (HM.out _ WD_W56.out) (fun _ => ?_)
          clear hK K
          try simp only [Act.put, List.setIfInBounds_toArray, List.set_cons_zero, List.set_cons_succ]
          refine wpAnyH_ready (rs := [6]) (by kernel_rfl) (by simp) ?_
          refine AllReadyH.cons (oper_at (r := _) rfl) (fun K hK => ?_) AllReadyH.nil
          go_simp
          refine (HIM.out _ (HYD.out.up WD_W56.out) v5 _ V5_W56.out).mono ?_
          rintro e W57 ⟨⟨Z, rfl, hz, hk⟩, hb⟩
          have WD_W57 := Lib.hid (WD_W56.out.trans (hb.mono WD_W56.out.size))
          have O_W57 := Lib.hid (O_W56.out.up hb)
          have C_W57 := Lib.hid (C_W56.out.up hb)
          clear WD_W56 O_W56 C_W56
          have Z_W57 := Lib.hid hz
          have HKZ := Lib.hid hk
          clear hb hz hk
          go_wp2_with fail
          refine hK.out _ _ (HM.out _ WD_W57.out) (fun _ => ?_)
          clear hK K
          try simp only [Act.put, List.setIfInBounds_toArray, List.set_cons_zero, List.set_cons_succ]
          refine wpAnyH_take (i := 7) (v := ?_) (oper_at (r := _) rfl) (by kernel_rfl) (by kernel_rfl) (by kernel_rfl) (fun _ _ _ h => h) (Or.inl ⟨by rfl, ?_⟩) (by assumption) ?_
          rotate_left
          · intro w hSw; try dsimp only at hSw
            go_simp
            try with_reducible rfl
          try simp only [Act.put, List.setIfInBounds_toArray, List.set_cons_zero, List.set_cons_succ]
          refine wpAnyH_take (i := 8) (v := ?_) (oper_at (r := _) rfl) (by kernel_rfl) (by kernel_rfl) (by kernel_rfl) (fun _ _ _ h => h) (Or.inl ⟨by rfl, ?_⟩) (by assumption) ?_
          rotate_left
          · intro w hSw; try dsimp only at hSw
            go_simp
            try with_reducible rfl
          try simp only [Act.put, List.setIfInBounds_toArray, List.set_cons_zero, List.set_cons_succ]
          refine wpAnyH_take (i := 9) (v := ?_) (oper_at (r := _) rfl) (by kernel_rfl) (by kernel_rfl) (by kernel_rfl) (fun _ _ _ h => h) (Or.inl ⟨by rfl, ?_⟩) (by assumption) ?_
          rotate_left
          · intro w hSw; try dsimp only at hSw
            go_simp
            try with_reducible rfl
          try simp only [Act.put, List.setIfInBounds_toArray, List.set_cons_zero, List.set_cons_succ]
          refine wpAnyH_ready (rs := [12]) (by kernel_rfl) (by simp) ?_
          refine AllReadyH.cons (oper_at (r := _) rfl) (fun K hK => ?_) AllReadyH.nil
          have fr0 := C_W57.out.free 0
          have fr1 := C_W57.out.free 1
          obtain ⟨e0, e1⟩ := C_W57.out.cells
          go_simp
          clear fr0 fr1 e0 e1
          have WD_W58 := Lib.hid ((WD_W57.out.setCell (p := ⟨gc, 0, none⟩) (by show wd.heap.size ≤ gc; omega) (.slice Z.An Z.g.ns.length Z.cn)).setCell (p := ⟨gc, 1, none⟩) (by show wd.heap.size ≤ gc; omega) (.slice Z.Ae Z.g.es.length Z.ce))
          have O_W58 := Lib.hid (O_W57.out.far ngcgo (.slice Z.An Z.g.ns.length Z.cn) (.slice Z.Ae Z.g.es.length Z.ce))
          have C_W58 := Lib.hid (C_W57.out.put (.slice Z.An Z.g.ns.length Z.cn) (.slice Z.Ae Z.g.es.length Z.ce))
          have Z_W58 := Lib.hid (Z_W57.out.box (w' := (W57.setCell ⟨gc, 0, none⟩ (.slice Z.An Z.g.ns.length Z.cn)).setCell ⟨gc, 1, none⟩ (.slice Z.Ae Z.g.es.length Z.ce)) C_W57.out HSL.out (fun i hi => (heap_setCell_other _ _ _ _ hi).trans (heap_setCell_other _ _ _ _ hi)) (by simp))
          clear WD_W57 O_W57 C_W57 Z_W57
          refine hK.out _ _ (HM.out _ WD_W58.out) (fun _ => ?_)
          clear hK K
          try simp only [Act.put, List.setIfInBounds_toArray, List.set_cons_zero, List.set_cons_succ]
          generalize (W57.setCell ⟨gc, 0, none⟩ (.slice Z.An Z.g.ns.length Z.cn)).setCell ⟨gc, 1, none⟩ (.slice Z.Ae Z.g.es.length Z.ce) = W58 at *
          refine wpAnyH_ready (rs := [13]) (by kernel_rfl) (by simp) ?_
          refine AllReadyH.cons (oper_at (r := _) rfl) (fun K hK => ?_) AllReadyH.nil
          have fr0 := O_W58.out.free 0
          have fr1 := O_W58.out.free 1
          obtain ⟨e0, e1⟩ := O_W58.out.cells
          go_simp
          clear fr0 fr1 e0 e1
          have WD_W59 := Lib.hid ((WD_W58.out.setCell (p := ⟨go, 0, none⟩) (by show wd.heap.size ≤ go; omega) (.slice Z.Mn Z.m.ns.length Z.mn)).setCell (p := ⟨go, 1, none⟩) (by show wd.heap.size ≤ go; omega) (.slice Z.Me Z.m.es.length Z.me))
          have O_W59 := Lib.hid (O_W58.out.put (.slice Z.Mn Z.m.ns.length Z.mn) (.slice Z.Me Z.m.es.length Z.me))
          have C_W59 := Lib.hid (C_W58.out.far ngogc (.slice Z.Mn Z.m.ns.length Z.mn) (.slice Z.Me Z.m.es.length Z.me))
          have Z_W59 := Lib.hid (Z_W58.out.box (w' := (W58.setCell ⟨go, 0, none⟩ (.slice Z.Mn Z.m.ns.length Z.mn)).setCell ⟨go, 1, none⟩ (.slice Z.Me Z.m.es.length Z.me)) O_W58.out HSL.out (fun i hi => (heap_setCell_other _ _ _ _ hi).trans (heap_setCell_other _ _ _ _ hi)) (by simp))
          clear WD_W58 O_W58 C_W58 Z_W58
          refine hK.out _ _ (HM.out _ WD_W59.out) (fun _ => ?_)
          clear hK K
          try simp only [Act.put, List.setIfInBounds_toArray, List.set_cons_zero, List.set_cons_succ]
          generalize (W58.setCell ⟨go, 0, none⟩ (.slice Z.Mn Z.m.ns.length Z.mn)).setCell ⟨go, 1, none⟩ (.slice Z.Me Z.m.es.length Z.me) = W59 at *
          refine wpAnyH_done (by kernel_rfl) ?_ _
          refine NoPanic.normal ?_
          go_wp2_with fail
          go_meet
          exact ⟨gc, go, Z, rfl, rfl, C_W59.out, O_W59.out, Z_W59.out, HKZ.out, HVD.out.trans (WD_W59.out.mono HVD.out.size)⟩
    · skip
      obtain ⟨gc, hg⟩ : ∃ g, g = wd.heap.size := ⟨_, rfl⟩
      have lgc : wd.heap.size ≤ gc := by rw [hg]; exact WD0.out.size
      have hx : BX gc (.slice none 0 0) (.slice none 0 0) 25 (wd.alloc (.cells #[.slice none 0 0, .slice none 0 0] 25)) := by rw [hg]; exact heap_alloc_new _ _
      have hb : Below wd.heap.size wd (wd.alloc (.cells #[.slice none 0 0, .slice none 0 0] 25)) := (Below.refl _ _).alloc (Nat.le_refl _) _
      have WD_W60 := Lib.hid (WD0.out.trans (hb.mono WD0.out.size))
      clear WD0
      have C_W60 := Lib.hid hx
      clear hx hb
      go_simp
      refine hK.out _ _ (HM.out _ WD_W60.out) (fun _ => ?_)
      clear hK K
      try simp only [Act.put, List.setIfInBounds_toArray, List.set_cons_zero, List.set_cons_succ]
      generalize wd.alloc (.cells #[.slice none 0 0, .slice none 0 0] 25) = W60 at *
      try rw [← hg]
      clear hg
      refine wpAnyH_ready (rs := [3, 11]) (by kernel_rfl) (by simp) ?_
      refine (AllReadyH.cons (oper_at (r := _) rfl) (fun K hK => ?_) (AllReadyH.cons (oper_at (r := _) rfl) (fun K hK => ?_) AllReadyH.nil))
      · skip
        go_simp
        refine (HCL.out _ (HSD.out.1.trans (WD_W60.out.mono HSD.out.1.size))).mono ?_
        rintro e W61 ⟨v3, rfl, ho, hb⟩
        have V3_W61 := Lib.hid (OwnE.mono ho WD_W60.out.size)
        have WD_W61 := Lib.hid (WD_W60.out.trans (hb.mono WD_W60.out.size))
        have C_W61 := Lib.hid (C_W60.out.up hb)
        clear WD_W60 C_W60
        clear hb ho
        go_wp2_with fail
        refine hK.out _ _ (HM.out _ WD_W61.out) (fun _ => ?_)
        clear hK K
        try simp only [Act.put, List.setIfInBounds_toArray, List.set_cons_zero, List.set_cons_succ]
        refine wpAnyH_ready (rs := [5, 11]) (by kernel_rfl) (by simp) ?_
        refine (AllReadyH.cons (oper_at (r := _) rfl) (fun K hK => ?_) (AllReadyH.cons (oper_at (r := _) rfl) (fun K hK => ?_) AllReadyH.nil))
        · skip
          refine step_append_many (E := EBy) (by rfl) _ _ 53 5 (by rfl) Tryd.underlying53 infoBy rfl (by decide) (by decide) wd.heap.size v3 y (by rfl) V3_W61.out Ax x.length cx W61.heap.size x (by rfl) rfl (HXR.out W61 (HSD.out.1.trans (WD_W61.out.mono HSD.out.1.size))) (by have := HXL.out; omega) (by have := HXL.out; omega) WD_W61.out.size ?_
          intro v5 W62 ho hgr hb _
          have C_W62 := Lib.hid ((hgr.block gc C_W61.out.lt (ownsRow_far V3_W61.out C_W61.out (by decide)).symm).trans C_W61.out)
          have C_W62 : Hid (BX gc (.slice none 0 0) (.slice none 0 0) 25 W62) := C_W62
          have WD_W62 := Lib.hid (WD_W61.out.trans hb)
          have V5_W62 := Lib.hid ho
          clear ho hgr hb
          refine hK.out _ _ (HM.out _ WD_W62.out) (fun _ => ?_)
          clear hK K
          try simp only [Act.put, List.setIfInBounds_toArray, List.set_cons_zero, List.set_cons_succ]
          refine wpAnyH_ready (rs := [6, 11]) (by kernel_rfl) (by simp) ?_
          refine (AllReadyH.cons (oper_at (r := _) rfl) (fun K hK => ?_) (AllReadyH.cons (oper_at (r := _) rfl) (fun K hK => ?_) AllReadyH.nil))
          · skip
            go_simp
            refine (HIM.out _ (HYD.out.up WD_W62.out) v5 _ V5_W62.out).mono ?_
            rintro e W63 ⟨⟨Z, rfl, hz, hk⟩, hb⟩
            have WD_W63 := Lib.hid (WD_W62.out.trans (hb.mono WD_W62.out.size))
            have C_W63 := Lib.hid (C_W62.out.up hb)
            clear WD_W62 C_W62
            have Z_W63 := Lib.hid hz
            have HKZ := Lib.hid hk
            clear hb hz hk
            go_wp2_with fail
            refine hK.out _ _ (HM.out _ WD_W63.out) (fun _ => ?_)
            clear hK K
            try simp only [Act.put, List.setIfInBounds_toArray, List.set_cons_zero, List.set_cons_succ]
            refine wpAnyH_take (i := 7) (v := ?_) (oper_at (r := _) rfl) (by kernel_rfl) (by kernel_rfl) (by kernel_rfl) (fun _ _ _ h => h) (Or.inl ⟨by rfl, ?_⟩) (by assumption) ?_
            rotate_left
            · intro w hSw; try dsimp only at hSw
              go_simp
              try with_reducible rfl
            try simp only [Act.put, List.setIfInBounds_toArray, List.set_cons_zero, List.set_cons_succ]
            refine wpAnyH_take (i := 8) (v := ?_) (oper_at (r := _) rfl) (by kernel_rfl) (by kernel_rfl) (by kernel_rfl) (fun _ _ _ h => h) (Or.inl ⟨by rfl, ?_⟩) (by assumption) ?_
            rotate_left
            · intro w hSw; try dsimp only at hSw
              go_simp
              try with_reducible rfl
            try simp only [Act.put, List.setIfInBounds_toArray, List.set_cons_zero, List.set_cons_succ]
            refine wpAnyH_take (i := 9) (v := ?_) (oper_at (r := _) rfl) (by kernel_rfl) (by kernel_rfl) (by kernel_rfl) (fun _ _ _ h => h) (Or.inl ⟨by rfl, ?_⟩) (by assumption) ?_
            rotate_left
            · intro w hSw; try dsimp only at hSw
              go_simp
              try with_reducible rfl
            try simp only [Act.put, List.setIfInBounds_toArray, List.set_cons_zero, List.set_cons_succ]
            refine wpAnyH_ready (rs := [11]) (by kernel_rfl) (by simp) ?_
            refine AllReadyH.cons (oper_at (r := _) rfl) (fun K hK => ?_) AllReadyH.nil
            obtain ⟨go, hg⟩ : ∃ g, g = W63.heap.size := ⟨_, rfl⟩
            have lgo : wd.heap.size ≤ go := by rw [hg]; exact WD_W63.out.size
            have ngogc : gc ≠ go := by have := C_W63.out.lt; omega
            have ngcgo : go ≠ gc := Ne.symm ngogc
            have hx : BX go (.slice none 0 0) (.slice none 0 0) 27 (W63.alloc (.cells #[.slice none 0 0, .slice none 0 0] 27)) := by rw [hg]; exact heap_alloc_new _ _
            have hb : Below W63.heap.size W63 (W63.alloc (.cells #[.slice none 0 0, .slice none 0 0] 27)) := (Below.refl _ _).alloc (Nat.le_refl _) _
            have WD_W64 := Lib.hid (WD_W63.out.trans (hb.mono WD_W63.out.size))
            have C_W64 := Lib.hid (C_W63.out.up hb)
            have Z_W64 := Lib.hid (Z_W63.out.up hb)
            clear WD_W63 C_W63 Z_W63
            have O_W64 := Lib.hid hx
            clear hx hb
            go_simp
            refine hK.out _ _ (HM.out _ WD_W64.out) (fun _ => ?_)
            clear hK K
            try simp only [Act.put, List.setIfInBounds_toArray, List.set_cons_zero, List.set_cons_succ]
            generalize W63.alloc (.cells #[.slice none 0 0, .slice none 0 0] 27) = W64 at *
            try rw [← hg]
            clear hg
            refine wpAnyH_ready (rs := [12]) (by kernel_rfl) (by simp) ?_
            refine AllReadyH.cons (oper_at (r := _) rfl) (fun K hK => ?_) AllReadyH.nil
            have fr0 := C_W64.out.free 0
            have fr1 := C_W64.out.free 1
            obtain ⟨e0, e1⟩ := C_W64.out.cells
            go_simp
            clear fr0 fr1 e0 e1
            have WD_W65 := Lib.hid ((WD_W64.out.setCell (p := ⟨gc, 0, none⟩) (by show wd.heap.size ≤ gc; omega) (.slice Z.An Z.g.ns.length Z.cn)).setCell (p := ⟨gc, 1, none⟩) (by show wd.heap.size ≤ gc; omega) (.slice Z.Ae Z.g.es.length Z.ce))
            have C_W65 := Lib.hid (C_W64.out.put (.slice Z.An Z.g.ns.length Z.cn) (.slice Z.Ae Z.g.es.length Z.ce))
            have Z_W65 := Lib.hid (Z_W64.out.box (w' := (W64.setCell ⟨gc, 0, none⟩ (.slice Z.An Z.g.ns.length Z.cn)).setCell ⟨gc, 1, none⟩ (.slice Z.Ae Z.g.es.length Z.ce)) C_W64.out HSL.out (fun i hi => (heap_setCell_other _ _ _ _ hi).trans (heap_setCell_other _ _ _ _ hi)) (by simp))
            have O_W65 := Lib.hid (O_W64.out.far ngcgo (.slice Z.An Z.g.ns.length Z.cn) (.slice Z.Ae Z.g.es.length Z.ce))
            clear WD_W64 C_W64 Z_W64 O_W64
            refine hK.out _ _ (HM.out _ WD_W65.out) (fun _ => ?_)
            clear hK K
            try simp only [Act.put, List.setIfInBounds_toArray, List.set_cons_zero, List.set_cons_succ]
            generalize (W64.setCell ⟨gc, 0, none⟩ (.slice Z.An Z.g.ns.length Z.cn)).setCell ⟨gc, 1, none⟩ (.slice Z.Ae Z.g.es.length Z.ce) = W65 at *
            refine wpAnyH_ready (rs := [13]) (by kernel_rfl) (by simp) ?_
            refine AllReadyH.cons (oper_at (r := _) rfl) (fun K hK => ?_) AllReadyH.nil
            have fr0 := O_W65.out.free 0
            have fr1 := O_W65.out.free 1
            obtain ⟨e0, e1⟩ := O_W65.out.cells
            go_simp
            clear fr0 fr1 e0 e1
            have WD_W66 := Lib.hid ((WD_W65.out.setCell (p := ⟨go, 0, none⟩) (by show wd.heap.size ≤ go; omega) (.slice Z.Mn Z.m.ns.length Z.mn)).setCell (p := ⟨go, 1, none⟩) (by show wd.heap.size ≤ go; omega) (.slice Z.Me Z.m.es.length Z.me))
            have C_W66 := Lib.hid (C_W65.out.far ngogc (.slice Z.Mn Z.m.ns.length Z.mn) (.slice Z.Me Z.m.es.length Z.me))
            have Z_W66 := Lib.hid (Z_W65.out.box (w' := (W65.setCell ⟨go, 0, none⟩ (.slice Z.Mn Z.m.ns.length Z.mn)).setCell ⟨go, 1, none⟩ (.slice Z.Me Z.m.es.length Z.me)) O_W65.out HSL.out (fun i hi => (heap_setCell_other _ _ _ _ hi).trans (heap_setCell_other _ _ _ _ hi)) (by simp))
            have O_W66 := Lib.hid (O_W65.out.put (.slice Z.Mn Z.m.ns.length Z.mn) (.slice Z.Me Z.m.es.length Z.me))
            clear WD_W65 C_W65 Z_W65 O_W65
            refine hK.out _ _ (HM.out _ WD_W66.out) (fun _ => ?_)
            clear hK K
            try simp only [Act.put, List.setIfInBounds_toArray, List.set_cons_zero, List.set_cons_succ]
            generalize (W65.setCell ⟨go, 0, none⟩ (.slice Z.Mn Z.m.ns.length Z.mn)).setCell ⟨go, 1, none⟩ (.slice Z.Me Z.m.es.length Z.me) = W66 at *
            refine wpAnyH_done (by kernel_rfl) ?_ _
            refine NoPanic.normal ?_
            go_wp2_with fail
            go_meet
            exact ⟨gc, go, Z, rfl, rfl, C_W66.out, O_W66.out, Z_W66.out, HKZ.out, HVD.out.trans (WD_W66.out.mono HVD.out.size)⟩
          · skip
            obtain ⟨go, hg⟩ : ∃ g, g = W62.heap.size := ⟨_, rfl⟩
            have lgo : wd.heap.size ≤ go := by rw [hg]; exact WD_W62.out.size
            have ngogc : gc ≠ go := by have := C_W62.out.lt; omega
            have ngcgo : go ≠ gc := Ne.symm ngogc
            have hx : BX go (.slice none 0 0) (.slice none 0 0) 27 (W62.alloc (.cells #[.slice none 0 0, .slice none 0 0] 27)) := by rw [hg]; exact heap_alloc_new _ _
            have hb : Below W62.heap.size W62 (W62.alloc (.cells #[.slice none 0 0, .slice none 0 0] 27)) := (Below.refl _ _).alloc (Nat.le_refl _) _
            have WD_W67 := Lib.hid (WD_W62.out.trans (hb.mono WD_W62.out.size))
            have C_W67 := Lib.hid (C_W62.out.up hb)
            have V5_W67 := Lib.hid (OwnE.below V5_W62.out hb (Nat.le_refl _))
            clear WD_W62 C_W62 V5_W62
            have O_W67 := Lib.hid hx
            clear hx hb
            go_simp
            refine hK.out _ _ (HM.out _ WD_W67.out) (fun _ => ?_)
            clear hK K
            try simp only [Act.put, List.setIfInBounds_toArray, List.set_cons_zero, List.set_cons_succ]
            generalize W62.alloc (.cells #[.slice none 0 0, .slice none 0 0] 27) = W67 at *
            try rw [← hg]
            clear hg
            refine wpAnyH_ready (rs := [6]) (by kernel_rfl) (by simp) ?_
            refine AllReadyH.cons (oper_at (r := _) rfl) (fun K hK => ?_) AllReadyH.nil
            go_simp
            refine (HIM.out _ (HYD.out.up WD_W67.out) v5 _ V5_W67.out).mono ?_
            rintro e W68 ⟨⟨Z, rfl, hz, hk⟩, hb⟩
            have WD_W68 := Lib.hid (WD_W67.out.trans (hb.mono WD_W67.out.size))
            have C_W68 := Lib.hid (C_W67.out.up hb)
            have O_W68 := Lib.hid (O_W67.out.up hb)
            clear WD_W67 C_W67 O_W67
            have Z_W68 := Lib.hid hz
            have HKZ := Lib.hid hk
            clear hb hz hk
            go_wp2_with fail
            refine hK.out _ _ (HM.out _ WD_W68.out) (fun _ => ?_)
            clear hK K
            try simp only [Act.put, List.setIfInBounds_toArray, List.set_cons_zero, List.set_cons_succ]
            refine wpAnyH_take (i := 7) (v := ?_) (oper_at (r := _) rfl) (by kernel_rfl) (by kernel_rfl) (by kernel_rfl) (fun _ _ _ h => h) (Or.inl ⟨by rfl, ?_⟩) (by assumption) ?_
            rotate_left
            · intro w hSw; try dsimp only at hSw
              go_simp
              try with_reducible rfl
            try simp only [Act.put, List.setIfInBounds_toArray, List.set_cons_zero, List.set_cons_succ]
            refine wpAnyH_take (i := 8) (v := ?_) (oper_at (r := _) rfl) (by kernel_rfl) (by kernel_rfl) (by kernel_rfl) (fun _ _ _ h => h) (Or.inl ⟨by rfl, ?_⟩) (by assumption) ?_
            rotate_left
            · intro w hSw; try dsimp only at hSw
              go_simp
              try with_reducible rfl
            try simp only [Act.put, List.setIfInBounds_toArray, List.set_cons_zero, List.set_cons_succ]
            refine wpAnyH_take (i := 9) (v := ?_) (oper_at (r := _) rfl) (by kernel_rfl) (by kernel_rfl) (by kernel_rfl) (fun _ _ _ h => h) (Or.inl ⟨by rfl, ?_⟩) (by assumption) ?_
            rotate_left
            · intro w hSw; try dsimp only at hSw
              go_simp
              try with_reducible rfl
            try simp only [Act.put, List.setIfInBounds_toArray, List.set_cons_zero, List.set_cons_succ]
            refine wpAnyH_ready (rs := [12]) (by kernel_rfl) (by simp) ?_
            refine AllReadyH.cons (oper_at (r := _) rfl) (fun K hK => ?_) AllReadyH.nil
            have fr0 := C_W68.out.free 0
            have fr1 := C_W68.out.free 1
            obtain ⟨e0, e1⟩ := C_W68.out.cells
            go_simp
            clear fr0 fr1 e0 e1
            have WD_W69 := Lib.hid ((WD_W68.out.setCell (p := ⟨gc, 0, none⟩) (by show wd.heap.size ≤ gc; omega) (.slice Z.An Z.g.ns.length Z.cn)).setCell (p := ⟨gc, 1, none⟩) (by show wd.heap.size ≤ gc; omega) (.slice Z.Ae Z.g.es.length Z.ce))
            have C_W69 := Lib.hid (C_W68.out.put (.slice Z.An Z.g.ns.length Z.cn) (.slice Z.Ae Z.g.es.length Z.ce))
            have O_W69 := Lib.hid (O_W68.out.far ngcgo (.slice Z.An Z.g.ns.length Z.cn) (.slice Z.Ae Z.g.es.length Z.ce))
            have Z_W69 := Lib.hid (Z_W68.out.box (w' := (W68.setCell ⟨gc, 0, none⟩ (.slice Z.An Z.g.ns.length Z.cn)).setCell ⟨gc, 1, none⟩ (.slice Z.Ae Z.g.es.length Z.ce)) C_W68.out HSL.out (fun i hi => (heap_setCell_other _ _ _ _ hi).trans (heap_setCell_other _ _ _ _ hi)) (by simp))
            clear WD_W68 C_W68 O_W68 Z_W68
            refine hK.out _ _ (HM.out _ WD_W69.out) (fun _ => ?_)
            clear hK K
            try simp only [Act.put, List.setIfInBounds_toArray, List.set_cons_zero, List.set_cons_succ]
            generalize (W68.setCell ⟨gc, 0, none⟩ (.slice Z.An Z.g.ns.length Z.cn)).setCell ⟨gc, 1, none⟩ (.slice Z.Ae Z.g.es.length Z.ce) = W69 at *
            refine wpAnyH_ready (rs := [13]) (by kernel_rfl) (by simp) ?_
            refine AllReadyH.cons (oper_at (r := _) rfl) (fun K hK => ?_) AllReadyH.nil
            have fr0 := O_W69.out.free 0
            have fr1 := O_W69.out.free 1
            obtain ⟨e0, e1⟩ := O_W69.out.cells
            go_simp
            clear fr0 fr1 e0 e1
            have WD_W70 := Lib.hid ((WD_W69.out.setCell (p := ⟨go, 0, none⟩) (by show wd.heap.size ≤ go; omega) (.slice Z.Mn Z.m.ns.length Z.mn)).setCell (p := ⟨go, 1, none⟩) (by show wd.heap.size ≤ go; omega) (.slice Z.Me Z.m.es.length Z.me))
            have C_W70 := Lib.hid (C_W69.out.far ngogc (.slice Z.Mn Z.m.ns.length Z.mn) (.slice Z.Me Z.m.es.length Z.me))
            have O_W70 := Lib.hid (O_W69.out.put (.slice Z.Mn Z.m.ns.length Z.mn) (.slice Z.Me Z.m.es.length Z.me))
            have Z_W70 := Lib.hid (Z_W69.out.box (w' := (W69.setCell ⟨go, 0, none⟩ (.slice Z.Mn Z.m.ns.length Z.mn)).setCell ⟨go, 1, none⟩ (.slice Z.Me Z.m.es.length Z.me)) O_W69.out HSL.out (fun i hi => (heap_setCell_other _ _ _ _ hi).trans (heap_setCell_other _ _ _ _ hi)) (by simp))
            clear WD_W69 C_W69 O_W69 Z_W69
            refine hK.out _ _ (HM.out _ WD_W70.out) (fun _ => ?_)
            clear hK K
            try simp only [Act.put, List.setIfInBounds_toArray, List.set_cons_zero, List.set_cons_succ]
            generalize (W69.setCell ⟨go, 0, none⟩ (.slice Z.Mn Z.m.ns.length Z.mn)).setCell ⟨go, 1, none⟩ (.slice Z.Me Z.m.es.length Z.me) = W70 at *
            refine wpAnyH_done (by kernel_rfl) ?_ _
            refine NoPanic.normal ?_
            go_wp2_with fail
            go_meet
            exact ⟨gc, go, Z, rfl, rfl, C_W70.out, O_W70.out, Z_W70.out, HKZ.out, HVD.out.trans (WD_W70.out.mono HVD.out.size)⟩
        · skip
          obtain ⟨go, hg⟩ : ∃ g, g = W61.heap.size := ⟨_, rfl⟩
          have lgo : wd.heap.size ≤ go := by rw [hg]; exact WD_W61.out.size
          have ngogc : gc ≠ go := by have := C_W61.out.lt; omega
          have ngcgo : go ≠ gc := Ne.symm ngogc
          have hx : BX go (.slice none 0 0) (.slice none 0 0) 27 (W61.alloc (.cells #[.slice none 0 0, .slice none 0 0] 27)) := by rw [hg]; exact heap_alloc_new _ _
          have hb : Below W61.heap.size W61 (W61.alloc (.cells #[.slice none 0 0, .slice none 0 0] 27)) := (Below.refl _ _).alloc (Nat.le_refl _) _
          have WD_W71 := Lib.hid (WD_W61.out.trans (hb.mono WD_W61.out.size))
          have C_W71 := Lib.hid (C_W61.out.up hb)
          have V3_W71 := Lib.hid (OwnE.below V3_W61.out hb (Nat.le_refl _))
          clear WD_W61 C_W61 V3_W61
          have O_W71 := Lib.hid hx
          clear hx hb
          go_simp
          refine hK.out _ _ (HM.out _ WD_W71.out) (fun _ => ?_)
          clear hK K
          try simp only [Act.put, List.setIfInBounds_toArray, List.set_cons_zero, List.set_cons_succ]
          generalize W61.alloc (.cells #[.slice none 0 0, .slice none 0 0] 27) = W71 at *
          try rw [← hg]
          clear hg
          refine wpAnyH_ready (rs := [5]) (by kernel_rfl) (by simp) ?_
          refine AllReadyH.cons (oper_at (r := _) rfl) (fun K hK => ?_) AllReadyH.nil
          refine step_append_many (E := EBy) (by rfl) _ _ 53 5 (by rfl) Tryd.underlying53 infoBy rfl (by decide) (by decide) wd.heap.size v3 y (by rfl) V3_W71.out Ax x.length cx W71.heap.size x (by rfl) rfl (HXR.out W71 (HSD.out.1.trans (WD_W71.out.mono HSD.out.1.size))) (by have := HXL.out; omega) (by have := HXL.out; omega) WD_W71.out.size ?_
          intro v5 W72 ho hgr hb _
          have C_W72 := Lib.hid ((hgr.block gc C_W71.out.lt (ownsRow_far V3_W71.out C_W71.out (by decide)).symm).trans C_W71.out)
          have C_W72 : Hid (BX gc (.slice none 0 0) (.slice none 0 0) 25 W72) := C_W72
          have O_W72 := Lib.hid ((hgr.block go O_W71.out.lt (ownsRow_far V3_W71.out O_W71.out (by decide)).symm).trans O_W71.out)
          have O_W72 : Hid (BX go (.slice none 0 0) (.slice none 0 0) 27 W72) := O_W72
          have WD_W72 := Lib.hid (WD_W71.out.trans hb)
          have V5_W72 := Lib.hid ho
          clear ho hgr hb
          refine hK.out _ _ (HM.out _ WD_W72.out) (fun _ => ?_)
          clear hK K
          try simp only [Act.put, List.setIfInBounds_toArray, List.set_cons_zero, List.set_cons_succ]
          refine wpAnyH_ready (rs := [6]) (by kernel_rfl) (by simp) ?_
          refine AllReadyH.cons (oper_at (r := _) rfl) (fun K hK => ?_) AllReadyH.nil
          go_simp
          refine (HIM.out _ (HYD.out.up WD_W72.out) v5 _ V5_W72.out).mono ?_
          rintro e W73 ⟨⟨Z, rfl, hz, hk⟩, hb⟩
          have WD_W73 := Lib.hid (WD_W72.out.trans (hb.mono WD_W72.out.size))
          have C_W73 := Lib.hid (C_W72.out.up hb)
          have O_W73 := Lib.hid (O_W72.out.up hb)
          clear WD_W72 C_W72 O_W72
          have Z_W73 := Lib.hid hz
          have HKZ := Lib.hid hk
          clear hb hz hk
          go_wp2_with fail
          refine hK.out _ _ (HM.out _ WD_W73.out) (fun _ => ?_)
          clear hK K
          try simp only [Act.put, List.setIfInBounds_toArray, List.set_cons_zero, List.set_cons_succ]
          refine wpAnyH_take (i := 7) (v := ?_) (oper_at (r := _) rfl) (by kernel_rfl) (by kernel_rfl) (by kernel_rfl) (fun _ _ _ h => h) (Or.inl ⟨by rfl, ?_⟩) (by assumption) ?_
          rotate_left
          · intro w hSw; try dsimp only at hSw
            go_simp
            try with_reducible rfl
          try simp only [Act.put, List.setIfInBounds_toArray, List.set_cons_zero, List.set_cons_succ]
          refine wpAnyH_take (i := 8) (v := ?_) (oper_at (r := _) rfl) (by kernel_rfl) (by kernel_rfl) (by kernel_rfl) (fun _ _ _ h => h) (Or.inl ⟨by rfl, ?_⟩) (by assumption) ?_
          rotate_left
          · intro w hSw; try dsimp only at hSw
            go_simp
            try with_reducible rfl
          try simp only [Act.put, List.setIfInBounds_toArray, List.set_cons_zero, List.set_cons_succ]
          refine wpAnyH_take (i := 9) (v := ?_) (oper_at (r := _) rfl) (by kernel_rfl) (by kernel_rfl) (by kernel_rfl) (fun _ _ _ h => h) (Or.inl ⟨by rfl, ?_⟩) (by assumption) ?_
          rotate_left
          · intro w hSw; try dsimp only at hSw
            go_simp
            try with_reducible rfl
          try simp only [Act.put, List.setIfInBounds_toArray, List.set_cons_zero, List.set_cons_succ]
          refine wpAnyH_ready (rs := [12]) (by kernel_rfl) (by simp) ?_
          refine AllReadyH.cons (oper_at (r := _) rfl) (fun K hK => ?_) AllReadyH.nil
          have fr0 := C_W73.out.free 0
          have fr1 := C_W73.out.free 1
          obtain ⟨e0, e1⟩ := C_W73.out.cells
          go_simp
          clear fr0 fr1 e0 e1
          have WD_W74 := Lib.hid ((WD_W73.out.setCell (p := ⟨gc, 0, none⟩) (by show wd.heap.size ≤ gc; omega) (.slice Z.An Z.g.ns.length Z.cn)).setCell (p := ⟨gc, 1, none⟩) (by show wd.heap.size ≤ gc; omega) (.slice Z.Ae Z.g.es.length Z.ce))
          have C_W74 := Lib.hid (C_W73.out.put (.slice Z.An Z.g.ns.length Z.cn) (.slice Z.Ae Z.g.es.length Z.ce))
          have O_W74 := Lib.hid (O_W73.out.far ngcgo (.slice Z.An Z.g.ns.length Z.cn) (.slice Z.Ae Z.g.es.length Z.ce))
          have Z_W74 := Lib.hid (Z_W73.out.box (w' := (W73.setCell ⟨gc, 0, none⟩ (.slice Z.An Z.g.ns.length Z.cn)).setCell ⟨gc, 1, none⟩ (.slice Z.Ae Z.g.es.length Z.ce)) C_W73.out HSL.out (fun i hi => (heap_setCell_other _ _ _ _ hi).trans (heap_setCell_other _ _ _ _ hi)) (by simp))
          clear WD_W73 C_W73 O_W73 Z_W73
          refine hK.out _ _ (HM.out _ WD_W74.out) (fun _ => ?_)
          clear hK K
          try simp only [Act.put, List.setIfInBounds_toArray, List.set_cons_zero, List.set_cons_succ]
          generalize (W73.setCell ⟨gc, 0, none⟩ (.slice Z.An Z.g.ns.length Z.cn)).setCell ⟨gc, 1, none⟩ (.slice Z.Ae Z.g.es.length Z.ce) = W74 at *
          refine wpAnyH_ready (rs := [13]) (by kernel_rfl) (by simp) ?_
          refine AllReadyH.cons (oper_at (r := _) rfl) (fun K hK => ?_) AllReadyH.nil
          have fr0 := O_W74.out.free 0
          have fr1 := O_W74.out.free 1
          obtain ⟨e0, e1⟩ := O_W74.out.cells
          go_simp
          clear fr0 fr1 e0 e1
          have WD_W75 := Lib.hid ((WD_W74.out.setCell (p := ⟨go, 0, none⟩) (by show wd.heap.size ≤ go; omega) (.slice Z.Mn Z.m.ns.length Z.mn)).setCell (p := ⟨go, 1, none⟩) (by show wd.heap.size ≤ go; omega) (.slice Z.Me Z.m.es.length Z.me))
          have C_W75 := Lib.hid (C_W74.out.far ngogc (.slice Z.Mn Z.m.ns.length Z.mn) (.slice Z.Me Z.m.es.length Z.me))
          have O_W75 := Lib.hid (O_W74.out.put (.slice Z.Mn Z.m.ns.length Z.mn) (.slice Z.Me Z.m.es.length Z.me))
          have Z_W75 := Lib.hid (Z_W74.out.box (w' := (W74.setCell ⟨go, 0, none⟩ (.slice Z.Mn Z.m.ns.length Z.mn)).setCell ⟨go, 1, none⟩ (.slice Z.Me Z.m.es.length Z.me)) O_W74.out HSL.out (fun i hi => (heap_setCell_other _ _ _ _ hi).trans (heap_setCell_other _ _ _ _ hi)) (by simp))
          clear WD_W74 C_W74 O_W74 Z_W74
          refine hK.out _ _ (HM.out _ WD_W75.out) (fun _ => ?_)
          clear hK K
          try simp only [Act.put, List.setIfInBounds_toArray, List.set_cons_zero, List.set_cons_succ]
          generalize (W74.setCell ⟨go, 0, none⟩ (.slice Z.Mn Z.m.ns.length Z.mn)).setCell ⟨go, 1, none⟩ (.slice Z.Me Z.m.es.length Z.me) = W75 at *
          refine wpAnyH_done (by kernel_rfl) ?_ _
          refine NoPanic.normal ?_
          go_wp2_with fail
          go_meet
          exact ⟨gc, go, Z, rfl, rfl, C_W75.out, O_W75.out, Z_W75.out, HKZ.out, HVD.out.trans (WD_W75.out.mono HVD.out.size)⟩
      · skip
        obtain ⟨go, hg⟩ : ∃ g, g = W60.heap.size := ⟨_, rfl⟩
        have lgo : wd.heap.size ≤ go := by rw [hg]; exact WD_W60.out.size
        have ngogc : gc ≠ go := by have := C_W60.out.lt; omega
        have ngcgo : go ≠ gc := Ne.symm ngogc
        have hx : BX go (.slice none 0 0) (.slice none 0 0) 27 (W60.alloc (.cells #[.slice none 0 0, .slice none 0 0] 27)) := by rw [hg]; exact heap_alloc_new _ _
        have hb : Below W60.heap.size W60 (W60.alloc (.cells #[.slice none 0 0, .slice none 0 0] 27)) := (Below.refl _ _).alloc (Nat.le_refl _) _
        have WD_W76 := Lib.hid (WD_W60.out.trans (hb.mono WD_W60.out.size))
        have C_W76 := Lib.hid (C_W60.out.up hb)
        clear WD_W60 C_W60
        have O_W76 := Lib.hid hx
        clear hx hb
        go_simp
        refine hK.out _ _ (HM.out _ WD_W76.out) (fun _ => ?_)
        clear hK K
        try simp only [Act.put, List.setIfInBounds_toArray, List.set_cons_zero, List.set_cons_succ]
        generalize W60.alloc (.cells #[.slice none 0 0, .slice none 0 0] 27) = W76 at *
        try rw [← hg]
        clear hg
        refine wpAnyH_ready (rs := [3]) (by kernel_rfl) (by simp) ?_
        refine AllReadyH.cons (oper_at (r := _) rfl) (fun K hK => ?_) AllReadyH.nil
        go_simp
        refine (HCL.out _ (HSD.out.1.trans (WD_W76.out.mono HSD.out.1.size))).mono ?_
        rintro e W77 ⟨v3, rfl, ho, hb⟩
        have V3_W77 := Lib.hid (OwnE.mono ho WD_W76.out.size)
        have WD_W77 := Lib.hid (WD_W76.out.trans (hb.mono WD_W76.out.size))
        have C_W77 := Lib.hid (C_W76.out.up hb)
        have O_W77 := Lib.hid (O_W76.out.up hb)
        clear WD_W76 C_W76 O_W76
        clear hb ho
        go_wp2_with fail
        refine hK.out _ _ (HM.out _ WD_W77.out) (fun _ => ?_)
        clear hK K
        try simp only [Act.put, List.setIfInBounds_toArray, List.set_cons_zero, List.set_cons_succ]
        refine wpAnyH_ready (rs := [5]) (by kernel_rfl) (by simp) ?_
        refine AllReadyH.cons (oper_at (r := _) rfl) (fun K hK => ?_) AllReadyH.nil
        refine step_append_many (E := EBy) (by rfl) _ _ 53 5 (by rfl) Tryd.underlying53 infoBy rfl (by decide) (by decide) wd.heap.size v3 y (by rfl) V3_W77.out Ax x.length cx W77.heap.size x (by rfl) rfl (HXR.out W77 (HSD.out.1.trans (WD_W77.out.mono HSD.out.1.size))) (by have := HXL.out; omega) (by have := HXL.out; omega) WD_W77.out.size ?_
        intro v5 W78 ho hgr hb _
        have C_W78 := Lib.hid ((hgr.block gc C_W77.out.lt (ownsRow_far V3_W77.out C_W77.out (by decide)).symm).trans C_W77.out)
        have C_W78 : Hid (BX gc (.slice none 0 0) (.slice none 0 0) 25 W78) := C_W78
        have O_W78 := Lib.hid ((hgr.block go O_W77.out.lt (ownsRow_far V3_W77.out O_W77.out (by decide)).symm).trans O_W77.out)
        have O_W78 : Hid (BX go (.slice none 0 0) (.slice none 0 0) 27 W78) := O_W78
        have WD_W78 := Lib.hid (WD_W77.out.trans hb)
        have V5_W78 := Lib.hid ho
        clear ho hgr hb
        refine hK.out _ _ (HM.out _ WD_W78.out) (fun _ => ?_)
        clear hK K
        try simp only [Act.put, List.setIfInBounds_toArray, List.set_cons_zero, List.set_cons_succ]
        refine wpAnyH_ready (rs := [6]) (by kernel_rfl) (by simp) ?_
        refine AllReadyH.cons (oper_at (r := _) rfl) (fun K hK => ?_) AllReadyH.nil
        go_simp
        refine (HIM.out _ (HYD.out.up WD_W78.out) v5 _ V5_W78.out).mono ?_
        rintro e W79 ⟨⟨Z, rfl, hz, hk⟩, hb⟩
        have WD_W79 := Lib.hid (WD_W78.out.trans (hb.mono WD_W78.out.size))
        have C_W79 := Lib.hid (C_W78.out.up hb)
        have O_W79 := Lib.hid (O_W78.out.up hb)
        clear WD_W78 C_W78 O_W78
        have Z_W79 := Lib.hid hz
        have HKZ := Lib.hid hk
        clear hb hz hk
        go_wp2_with fail
        refine hK.out _ _ (HM.out _ WD_W79.out) (fun _ => ?_)
        clear hK K
        try simp only [Act.put, List.setIfInBounds_toArray, List.set_cons_zero, List.set_cons_succ]
        refine wpAnyH_take (i := 7) (v := ?_) (oper_at (r := _) rfl) (by kernel_rfl) (by kernel_rfl) (by kernel_rfl) (fun _ _ _ h => h) (Or.inl ⟨by rfl, ?_⟩) (by assumption) ?_
        rotate_left
        · intro w hSw; try dsimp only at hSw
          go_simp
          try with_reducible rfl
        try simp only [Act.put, List.setIfInBounds_toArray, List.set_cons_zero, List.set_cons_succ]
        refine wpAnyH_take (i := 8) (v := ?_) (oper_at (r := _) rfl) (by kernel_rfl) (by kernel_rfl) (by kernel_rfl) (fun _ _ _ h => h) (Or.inl ⟨by rfl, ?_⟩) (by assumption) ?_
        rotate_left
        · intro w hSw; try dsimp only at hSw
          go_simp
          try with_reducible rfl
        try simp only [Act.put, List.setIfInBounds_toArray, List.set_cons_zero, List.set_cons_succ]
        refine wpAnyH_take (i := 9) (v := ?_) (oper_at (r := _) rfl) (by kernel_rfl) (by kernel_rfl) (by kernel_rfl) (fun _ _ _ h => h) (Or.inl ⟨by rfl, ?_⟩) (by assumption) ?_
        rotate_left
        · intro w hSw; try dsimp only at hSw
          go_simp
          try with_reducible rfl
        try simp only [Act.put, List.setIfInBounds_toArray, List.set_cons_zero, List.set_cons_succ]
        refine wpAnyH_ready (rs := [12]) (by kernel_rfl) (by simp) ?_
        refine AllReadyH.cons (oper_at (r := _) rfl) (fun K hK => ?_) AllReadyH.nil
        have fr0 := C_W79.out.free 0
        have fr1 := C_W79.out.free 1
        obtain ⟨e0, e1⟩ := C_W79.out.cells
        go_simp
        clear fr0 fr1 e0 e1
        have WD_W80 := Lib.hid ((WD_W79.out.setCell (p := ⟨gc, 0, none⟩) (by show wd.heap.size ≤ gc; omega) (.slice Z.An Z.g.ns.length Z.cn)).setCell (p := ⟨gc, 1, none⟩) (by show wd.heap.size ≤ gc; omega) (.slice Z.Ae Z.g.es.length Z.ce))
        have C_W80 := Lib.hid (C_W79.out.put (.slice Z.An Z.g.ns.length Z.cn) (.slice Z.Ae Z.g.es.length Z.ce))
        have O_W80 := Lib.hid (O_W79.out.far ngcgo (.slice Z.An Z.g.ns.length Z.cn) (.slice Z.Ae Z.g.es.length Z.ce))
        have Z_W80 := Lib.hid (Z_W79.out.box (w' := (W79.setCell ⟨gc, 0, none⟩ (.slice Z.An Z.g.ns.length Z.cn)).setCell ⟨gc, 1, none⟩ (.slice Z.Ae Z.g.es.length Z.ce)) C_W79.out HSL.out (fun i hi => (heap_setCell_other _ _ _ _ hi).trans (heap_setCell_other _ _ _ _ hi)) (by simp))
        clear WD_W79 C_W79 O_W79 Z_W79
        refine hK.out _ _ (HM.out _ WD_W80.out) (fun _ => ?_)
        clear hK K
        try simp only [Act.put, List.setIfInBounds_toArray, List.set_cons_zero, List.set_cons_succ]
        generalize (W79.setCell ⟨gc, 0, none⟩ (.slice Z.An Z.g.ns.length Z.cn)).setCell ⟨gc, 1, none⟩ (.slice Z.Ae Z.g.es.length Z.ce) = W80 at *
        refine wpAnyH_ready (rs := [13]) (by kernel_rfl) (by simp) ?_
        refine AllReadyH.cons (oper_at (r := _) rfl) (fun K hK => ?_) AllReadyH.nil
        have fr0 := O_W80.out.free 0
        have fr1 := O_W80.out.free 1
        obtain ⟨e0, e1⟩ := O_W80.out.cells
        go_simp
        clear fr0 fr1 e0 e1
        have WD_W81 := Lib.hid ((WD_W80.out.setCell (p := ⟨go, 0, none⟩) (by show wd.heap.size ≤ go; omega) (.slice Z.Mn Z.m.ns.length Z.mn)).setCell (p := ⟨go, 1, none⟩) (by show wd.heap.size ≤ go; omega) (.slice Z.Me Z.m.es.length Z.me))
        have C_W81 := Lib.hid (C_W80.out.far ngogc (.slice Z.Mn Z.m.ns.length Z.mn) (.slice Z.Me Z.m.es.length Z.me))
        have O_W81 := Lib.hid (O_W80.out.put (.slice Z.Mn Z.m.ns.length Z.mn) (.slice Z.Me Z.m.es.length Z.me))
        have Z_W81 := Lib.hid (Z_W80.out.box (w' := (W80.setCell ⟨go, 0, none⟩ (.slice Z.Mn Z.m.ns.length Z.mn)).setCell ⟨go, 1, none⟩ (.slice Z.Me Z.m.es.length Z.me)) O_W80.out HSL.out (fun i hi => (heap_setCell_other _ _ _ _ hi).trans (heap_setCell_other _ _ _ _ hi)) (by simp))
        clear WD_W80 C_W80 O_W80 Z_W80
        refine hK.out _ _ (HM.out _ WD_W81.out) (fun _ => ?_)
        clear hK K
        try simp only [Act.put, List.setIfInBounds_toArray, List.set_cons_zero, List.set_cons_succ]
        generalize (W80.setCell ⟨go, 0, none⟩ (.slice Z.Mn Z.m.ns.length Z.mn)).setCell ⟨go, 1, none⟩ (.slice Z.Me Z.m.es.length Z.me) = W81 at *
        refine wpAnyH_done (by kernel_rfl) ?_ _
        refine NoPanic.normal ?_
        go_wp2_with fail
        go_meet
        exact ⟨gc, go, Z, rfl, rfl, C_W81.out, O_W81.out, Z_W81.out, HKZ.out, HVD.out.trans (WD_W81.out.mono HVD.out.size)⟩
    · skip
      obtain ⟨go, hg⟩ : ∃ g, g = wd.heap.size := ⟨_, rfl⟩
      have lgo : wd.heap.size ≤ go := by rw [hg]; exact WD0.out.size
      have hx : BX go (.slice none 0 0) (.slice none 0 0) 27 (wd.alloc (.cells #[.slice none 0 0, .slice none 0 0] 27)) := by rw [hg]; exact heap_alloc_new _ _
      have hb : Below wd.heap.size wd (wd.alloc (.cells #[.slice none 0 0, .slice none 0 0] 27)) := (Below.refl _ _).alloc (Nat.le_refl _) _
      have WD_W82 := Lib.hid (WD0.out.trans (hb.mono WD0.out.size))
      clear WD0
      have O_W82 := Lib.hid hx
      clear hx hb
      go_simp
      refine hK.out _ _ (HM.out _ WD_W82.out) (fun _ => ?_)
      clear hK K
      try simp only [Act.put, List.setIfInBounds_toArray, List.set_cons_zero, List.set_cons_succ]
      generalize wd.alloc (.cells #[.slice none 0 0, .slice none 0 0] 27) = W82 at *
      try rw [← hg]
      clear hg
      refine wpAnyH_ready (rs := [3, 10]) (by kernel_rfl) (by simp) ?_
      refine (AllReadyH.cons (oper_at (r := _) rfl) (fun K hK => ?_) (AllReadyH.cons (oper_at (r := _) rfl) (fun K hK => ?_) AllReadyH.nil))
      · skip
        go_simp
        refine (HCL.out _ (HSD.out.1.trans (WD_W82.out.mono HSD.out.1.size))).mono ?_
        rintro e W83 ⟨v3, rfl, ho, hb⟩
        have V3_W83 := Lib.hid (OwnE.mono ho WD_W82.out.size)
        have WD_W83 := Lib.hid (WD_W82.out.trans (hb.mono WD_W82.out.size))
        have O_W83 := Lib.hid (O_W82.out.up hb)
        clear WD_W82 O_W82
        clear hb ho
        go_wp2_with fail
        refine hK.out _ _ (HM.out _ WD_W83.out) (fun _ => ?_)
        clear hK K
        try simp only [Act.put, List.setIfInBounds_toArray, List.set_cons_zero, List.set_cons_succ]
        refine wpAnyH_ready (rs := [5, 10]) (by kernel_rfl) (by simp) ?_
        refine (AllReadyH.cons (oper_at (r := _) rfl) (fun K hK => ?_) (AllReadyH.cons (oper_at (r := _) rfl) (fun K hK => ?_) AllReadyH.nil))
        · skip
          refine step_append_many (E := EBy) (by rfl) _ _ 53 5 (by rfl) Tryd.underlying53 infoBy rfl (by decide) (by decide) wd.heap.size v3 y (by rfl) V3_W83.out Ax x.length cx W83.heap.size x (by rfl) rfl (HXR.out W83 (HSD.out.1.trans (WD_W83.out.mono HSD.out.1.size))) (by have := HXL.out; omega) (by have := HXL.out; omega) WD_W83.out.size ?_
          intro v5 W84 ho hgr hb _
          have O_W84 := Lib.hid ((hgr.block go O_W83.out.lt (ownsRow_far V3_W83.out O_W83.out (by decide)).symm).trans O_W83.out)
          have O_W84 : Hid (BX go (.slice none 0 0) (.slice none 0 0) 27 W84) := O_W84
          have WD_W84 := Lib.hid (WD_W83.out.trans hb)
          have V5_W84 := Lib.hid ho
          clear ho hgr hb
          refine hK.out _ _ (HM.out _ WD_W84.out) (fun _ => ?_)
          clear hK K
          try simp only [Act.put, List.setIfInBounds_toArray, List.set_cons_zero, List.set_cons_succ]
          refine wpAnyH_ready (rs := [6, 10]) (by kernel_rfl) (by simp) ?_
          refine (AllReadyH.cons (oper_at (r := _) rfl) (fun K hK => ?_) (AllReadyH.cons (oper_at (r := _) rfl) (fun K hK => ?_) AllReadyH.nil))
          · skip
            go_simp
            refine (HIM.out _ (HYD.out.up WD_W84.out) v5 _ V5_W84.out).mono ?_
            rintro e W85 ⟨⟨Z, rfl, hz, hk⟩, hb⟩
            have WD_W85 := Lib.hid (WD_W84.out.trans (hb.mono WD_W84.out.size))
            have O_W85 := Lib.hid (O_W84.out.up hb)
            clear WD_W84 O_W84
            have Z_W85 := Lib.hid hz
            have HKZ := Lib.hid hk
            clear hb hz hk
            go_wp2_with fail
            refine hK.out _ _ (HM.out _ WD_W85.out) (fun _ => ?_)
            clear hK K
            try simp only [Act.put, List.setIfInBounds_toArray, List.set_cons_zero, List.set_cons_succ]
            refine wpAnyH_take (i := 7) (v := ?_) (oper_at (r := _) rfl) (by kernel_rfl) (by kernel_rfl) (by kernel_rfl) (fun _ _ _ h => h) (Or.inl ⟨by rfl, ?_⟩) (by assumption) ?_
            rotate_left
            · intro w hSw; try dsimp only at hSw
              go_simp
              try with_reducible rfl
            try simp only [Act.put, List.setIfInBounds_toArray, List.set_cons_zero, List.set_cons_succ]
            refine wpAnyH_take (i := 8) (v := ?_) (oper_at (r := _) rfl) (by kernel_rfl) (by kernel_rfl) (by kernel_rfl) (fun _ _ _ h => h) (Or.inl ⟨by rfl, ?_⟩) (by assumption) ?_
            rotate_left
            · intro w hSw; try dsimp only at hSw
              go_simp
              try with_reducible rfl
            try simp only [Act.put, List.setIfInBounds_toArray, List.set_cons_zero, List.set_cons_succ]
            refine wpAnyH_take (i := 9) (v := ?_) (oper_at (r := _) rfl) (by kernel_rfl) (by kernel_rfl) (by kernel_rfl) (fun _ _ _ h => h) (Or.inl ⟨by rfl, ?_⟩) (by assumption) ?_
            rotate_left
            · intro w hSw; try dsimp only at hSw
              go_simp
              try with_reducible rfl
            try simp only [Act.put, List.setIfInBounds_toArray, List.set_cons_zero, List.set_cons_succ]
            refine wpAnyH_ready (rs := [10]) (by kernel_rfl) (by simp) ?_
            refine AllReadyH.cons (oper_at (r := _) rfl) (fun K hK => ?_) AllReadyH.nil
            obtain ⟨gc, hg⟩ : ∃ g, g = W85.heap.size := ⟨_, rfl⟩
            have lgc : wd.heap.size ≤ gc := by rw [hg]; exact WD_W85.out.size
            have ngcgo : go ≠ gc := by have := O_W85.out.lt; omega
            have ngogc : gc ≠ go := Ne.symm ngcgo
            have hx : BX gc (.slice none 0 0) (.slice none 0 0) 25 (W85.alloc (.cells #[.slice none 0 0, .slice none 0 0] 25)) := by rw [hg]; exact heap_alloc_new _ _
            have hb : Below W85.heap.size W85 (W85.alloc (.cells #[.slice none 0 0, .slice none 0 0] 25)) := (Below.refl _ _).alloc (Nat.le_refl _) _
            have WD_W86 := Lib.hid (WD_W85.out.trans (hb.mono WD_W85.out.size))
            have O_W86 := Lib.hid (O_W85.out.up hb)
            have Z_W86 := Lib.hid (Z_W85.out.up hb)
            clear WD_W85 O_W85 Z_W85
            have C_W86 := Lib.hid hx
            clear hx hb
            go_simp
            refine hK.out _ _ (HM.out _ WD_W86.out) (fun _ => ?_)
            clear hK K
            try simp only [Act.put, List.setIfInBounds_toArray, List.set_cons_zero, List.set_cons_succ]
            generalize W85.alloc (.cells #[.slice none 0 0, .slice none 0 0] 25) = W86 at *
            try rw [← hg]
            clear hg
            refine wpAnyH_ready (rs := [12]) (by kernel_rfl) (by simp) ?_
            refine AllReadyH.cons (oper_at (r := _) rfl) (fun K hK => ?_) AllReadyH.nil
            have fr0 := C_W86.out.free 0
            have fr1 := C_W86.out.free 1
            obtain ⟨e0, e1⟩ := C_W86.out.cells
            go_simp
            clear fr0 fr1 e0 e1
            have WD_W87 := Lib.hid ((WD_W86.out.setCell (p := ⟨gc, 0, none⟩) (by show wd.heap.size ≤ gc; omega) (.slice Z.An Z.g.ns.length Z.cn)).setCell (p := ⟨gc, 1, none⟩) (by show wd.heap.size ≤ gc; omega) (.slice Z.Ae Z.g.es.length Z.ce))
            have O_W87 := Lib.hid (O_W86.out.far ngcgo (.slice Z.An Z.g.ns.length Z.cn) (.slice Z.Ae Z.g.es.length Z.ce))
            have Z_W87 := Lib.hid (Z_W86.out.box (w' := (W86.setCell ⟨gc, 0, none⟩ (.slice Z.An Z.g.ns.length Z.cn)).setCell ⟨gc, 1, none⟩ (.slice Z.Ae Z.g.es.length Z.ce)) C_W86.out HSL.out (fun i hi => (heap_setCell_other _ _ _ _ hi).trans (heap_setCell_other _ _ _ _ hi)) (by simp))
            have C_W87 := Lib.hid (C_W86.out.put (.slice Z.An Z.g.ns.length Z.cn) (.slice Z.Ae Z.g.es.length Z.ce))
            clear WD_W86 O_W86 Z_W86 C_W86
            refine hK.out _ _ (HM.out _ WD_W87.out) (fun _ => ?_)
            clear hK K
            try simp only [Act.put, List.setIfInBounds_toArray, List.set_cons_zero, List.set_cons_succ]
            generalize (W86.setCell ⟨gc, 0, none⟩ (.slice Z.An Z.g.ns.length Z.cn)).setCell ⟨gc, 1, none⟩ (.slice Z.Ae Z.g.es.length Z.ce) = W87 at *
            refine wpAnyH_ready (rs := [13]) (by kernel_rfl) (by simp) ?_
            refine AllReadyH.cons (oper_at (r := _) rfl) (fun K hK => ?_) AllReadyH.nil
            have fr0 := O_W87.out.free 0
            have fr1 := O_W87.out.free 1
            obtain ⟨e0, e1⟩ := O_W87.out.cells
            go_simp
            clear fr0 fr1 e0 e1
            have WD_W88 := Lib.hid ((WD_W87.out.setCell (p := ⟨go, 0, none⟩) (by show wd.heap.size ≤ go; omega) (.slice Z.Mn Z.m.ns.length Z.mn)).setCell (p := ⟨go, 1, none⟩) (by show wd.heap.size ≤ go; omega) (.slice Z.Me Z.m.es.length Z.me))
            have O_W88 := Lib.hid (O_W87.out.put (.slice Z.Mn Z.m.ns.length Z.mn) (.slice Z.Me Z.m.es.length Z.me))
            have Z_W88 := Lib.hid (Z_W87.out.box (w' := (W87.setCell ⟨go, 0, none⟩ (.slice Z.Mn Z.m.ns.length Z.mn)).setCell ⟨go, 1, none⟩ (.slice Z.Me Z.m.es.length Z.me)) O_W87.out HSL.out (fun i hi => (heap_setCell_other _ _ _ _ hi).trans (heap_setCell_other _ _ _ _ hi)) (by simp))
            have C_W88 := Lib.hid (C_W87.out.far ngogc (.slice Z.Mn Z.m.ns.length Z.mn) (.slice Z.Me Z.m.es.length Z.me))
            clear WD_W87 O_W87 Z_W87 C_W87
            refine hK.out _ _ (HM.out _ WD_W88.out) (fun _ => ?_)
            clear hK K
            try simp only [Act.put, List.setIfInBounds_toArray, List.set_cons_zero, List.set_cons_succ]
            generalize (W87.setCell ⟨go, 0, none⟩ (.slice Z.Mn Z.m.ns.length Z.mn)).setCell ⟨go, 1, none⟩ (.slice Z.Me Z.m.es.length Z.me) = W88 at *
            refine wpAnyH_done (by kernel_rfl) ?_ _
            refine NoPanic.normal ?_
            go_wp2_with fail
            go_meet
            exact ⟨gc, go, Z, rfl, rfl, C_W88.out, O_W88.out, Z_W88.out, HKZ.out, HVD.out.trans (WD_W88.out.mono HVD.out.size)⟩
          · skip
            obtain ⟨gc, hg⟩ : ∃ g, g = W84.heap.size := ⟨_, rfl⟩
            have lgc : wd.heap.size ≤ gc := by rw [hg]; exact WD_W84.out.size
            have ngcgo : go ≠ gc := by have := O_W84.out.lt; omega
            have ngogc : gc ≠ go := Ne.symm ngcgo
            have hx : BX gc (.slice none 0 0) (.slice none 0 0) 25 (W84.alloc (.cells #[.slice none 0 0, .slice none 0 0] 25)) := by rw [hg]; exact heap_alloc_new _ _
            have hb : Below W84.heap.size W84 (W84.alloc (.cells #[.slice none 0 0, .slice none 0 0] 25)) := (Below.refl _ _).alloc (Nat.le_refl _) _
            have WD_W89 := Lib.hid (WD_W84.out.trans (hb.mono WD_W84.out.size))
            have O_W89 := Lib.hid (O_W84.out.up hb)
            have V5_W89 := Lib.hid (OwnE.below V5_W84.out hb (Nat.le_refl _))
            clear WD_W84 O_W84 V5_W84
            have C_W89 := Lib.hid hx
            clear hx hb
            go_simp
            refine hK.out _ _ (HM.out _ WD_W89.out) (fun _ => ?_)
            clear hK K
            try simp only [Act.put, List.setIfInBounds_toArray, List.set_cons_zero, List.set_cons_succ]
            generalize W84.alloc (.cells #[.slice none 0 0, .slice none 0 0] 25) = W89 at *
            try rw [← hg]
            clear hg
            refine wpAnyH_ready (rs := [6]) (by kernel_rfl) (by simp) ?_
            refine AllReadyH.cons (oper_at (r := _) rfl) (fun K hK => ?_) AllReadyH.nil
            go_simp
            refine (HIM.out _ (HYD.out.up WD_W89.out) v5 _ V5_W89.out).mono ?_
            rintro e W90 ⟨⟨Z, rfl, hz, hk⟩, hb⟩
            have WD_W90 := Lib.hid (WD_W89.out.trans (hb.mono WD_W89.out.size))
            have O_W90 := Lib.hid (O_W89.out.up hb)
            have C_W90 := Lib.hid (C_W89.out.up hb)
            clear WD_W89 O_W89 C_W89
            have Z_W90 := Lib.hid hz
            have HKZ := Lib.hid hk
            clear hb hz hk
            go_wp2_with fail
            refine hK.out _ _ (HM.out _ WD_W90.out) (fun _ => ?_)
            clear hK K
            try simp only [Act.put, List.setIfInBounds_toArray, List.set_cons_zero, List.set_cons_succ]
            refine wpAnyH_take (i := 7) (v := ?_) (oper_at (r := _) rfl) (by kernel_rfl) (by kernel_rfl) (by kernel_rfl) (fun _ _ _ h => h) (Or.inl ⟨by rfl, ?_⟩) (by assumption) ?_
            rotate_left
            · intro w hSw; try dsimp only at hSw
              go_simp
              try with_reducible rfl
            try simp only [Act.put, List.setIfInBounds_toArray, List.set_cons_zero, List.set_cons_succ]
            refine wpAnyH_take (i := 8) (v := ?_) (oper_at (r := _) rfl) (by kernel_rfl) (by kernel_rfl) (by kernel_rfl) (fun _ _ _ h => h) (Or.inl ⟨by rfl, ?_⟩) (by assumption) ?_
            rotate_left
            · intro w hSw; try dsimp only at hSw
              go_simp
              try with_reducible rfl
            try simp only [Act.put, List.setIfInBounds_toArray, List.set_cons_zero, List.set_cons_succ]
            refine wpAnyH_take (i := 9) (v := ?_) (oper_at (r := _) rfl) (by kernel_rfl) (by kernel_rfl) (by kernel_rfl) (fun _ _ _ h => h) (Or.inl ⟨by rfl, ?_⟩) (by assumption) ?_
            rotate_left
            · intro w hSw; try dsimp only at hSw
              go_simp
              try with_reducible rfl
            try simp only [Act.put, List.setIfInBounds_toArray, List.set_cons_zero, List.set_cons_succ]
            refine wpAnyH_ready (rs := [12]) (by kernel_rfl) (by simp) ?_
            refine AllReadyH.cons (oper_at (r := _) rfl) (fun K hK => ?_) AllReadyH.nil
            have fr0 := C_W90.out.free 0
            have fr1 := C_W90.out.free 1
            obtain ⟨e0, e1⟩ := C_W90.out.cells
            go_simp
            clear fr0 fr1 e0 e1
            have WD_W91 := Lib.hid ((WD_W90.out.setCell (p := ⟨gc, 0, none⟩) (by show wd.heap.size ≤ gc; omega) (.slice Z.An Z.g.ns.length Z.cn)).setCell (p := ⟨gc, 1, none⟩) (by show wd.heap.size ≤ gc; omega) (.slice Z.Ae Z.g.es.length Z.ce))
            have O_W91 := Lib.hid (O_W90.out.far ngcgo (.slice Z.An Z.g.ns.length Z.cn) (.slice Z.Ae Z.g.es.length Z.ce))
            have C_W91 := Lib.hid (C_W90.out.put (.slice Z.An Z.g.ns.length Z.cn) (.slice Z.Ae Z.g.es.length Z.ce))
            have Z_W91 := Lib.hid (Z_W90.out.box (w' := (W90.setCell ⟨gc, 0, none⟩ (.slice Z.An Z.g.ns.length Z.cn)).setCell ⟨gc, 1, none⟩ (.slice Z.Ae Z.g.es.length Z.ce)) C_W90.out HSL.out (fun i hi => (heap_setCell_other _ _ _ _ hi).trans (heap_setCell_other _ _ _ _ hi)) (by simp))
            clear WD_W90 O_W90 C_W90 Z_W90
            refine hK.out _ _ (HM.out _ WD_W91.out) (fun _ => ?_)
            clear hK K
            try simp only [Act.put, List.setIfInBounds_toArray, List.set_cons_zero, List.set_cons_succ]
            generalize (W90.setCell ⟨gc, 0, none⟩ (.slice Z.An Z.g.ns.length Z.cn)).setCell ⟨gc, 1, none⟩ (.slice Z.Ae Z.g.es.length Z.ce) = W91 at *
            refine wpAnyH_ready (rs := [13]) (by kernel_rfl) (by simp) ?_
            refine AllReadyH.cons (oper_at (r := _) rfl) (fun K hK => ?_) AllReadyH.nil
            have fr0 := O_W91.out.free 0
            have fr1 := O_W91.out.free 1
            obtain ⟨e0, e1⟩ := O_W91.out.cells
            go_simp
            clear fr0 fr1 e0 e1
            have WD_W92 := Lib.hid ((WD_W91.out.setCell (p := ⟨go, 0, none⟩) (by show wd.heap.size ≤ go; omega) (.slice Z.Mn Z.m.ns.length Z.mn)).setCell (p := ⟨go, 1, none⟩) (by show wd.heap.size ≤ go; omega) (.slice Z.Me Z.m.es.length Z.me))
            have O_W92 := Lib.hid (O_W91.out.put (.slice Z.Mn Z.m.ns.length Z.mn) (.slice Z.Me Z.m.es.length Z.me))
            have C_W92 := Lib.hid (C_W91.out.far ngogc (.slice Z.Mn Z.m.ns.length Z.mn) (.slice Z.Me Z.m.es.length Z.me))
            have Z_W92 := Lib.hid (Z_W91.out.box (w' := (W91.setCell ⟨go, 0, none⟩ (.slice Z.Mn Z.m.ns.length Z.mn)).setCell ⟨go, 1, none⟩ (.slice Z.Me Z.m.es.length Z.me)) O_W91.out HSL.out (fun i hi => (heap_setCell_other _ _ _ _ hi).trans (heap_setCell_other _ _ _ _ hi)) (by simp))
            clear WD_W91 O_W91 C_W91 Z_W91
            refine hK.out _ _ (HM.out _ WD_W92.out) (fun _ => ?_)
            clear hK K
            try simp only [Act.put, List.setIfInBounds_toArray, List.set_cons_zero, List.set_cons_succ]
            generalize (W91.setCell ⟨go, 0, none⟩ (.slice Z.Mn Z.m.ns.length Z.mn)).setCell ⟨go, 1, none⟩ (.slice Z.Me Z.m.es.length Z.me) = W92 at *
            refine wpAnyH_done (by kernel_rfl) ?_ _
            refine NoPanic.normal ?_
            go_wp2_with fail
            go_meet
            exact ⟨gc, go, Z, rfl, rfl, C_W92.out, O_W92.out, Z_W92.out, HKZ.out, HVD.out.trans (WD_W92.out.mono HVD.out.size)⟩
        · skip
          obtain ⟨gc, hg⟩ : ∃ g, g = W83.heap.size := ⟨_, rfl⟩
          have lgc : wd.heap.size ≤ gc := by rw [hg]; exact WD_W83.out.size
          have ngcgo : go ≠ gc := by have := O_W83.out.lt; omega
          have ngogc : gc ≠ go := Ne.symm ngcgo
          have hx : BX gc (.slice none 0 0) (.slice none 0 0) 25 (W83.alloc (.cells #[.slice none 0 0, .slice none 0 0] 25)) := by rw [hg]; exact heap_alloc_new _ _
          have hb : Below W83.heap.size W83 (W83.alloc (.cells #[.slice none 0 0, .slice none 0 0] 25)) := (Below.refl _ _).alloc (Nat.le_refl _) _
          have WD_W93 := Lib.hid (WD_W83.out.trans (hb.mono WD_W83.out.size))
          have O_W93 := Lib.hid (O_W83.out.up hb)
          have V3_W93 := Lib.hid (OwnE.below V3_W83.out hb (Nat.le_refl _))
          clear WD_W83 O_W83 V3_W83
          have C_W93 := Lib.hid hx
          clear hx hb
          go_simp
          refine hK.out _ _ (HM.out _ WD_W93.out) (fun _ => ?_)
          clear hK K
          try simp only [Act.put, List.setIfInBounds_toArray, List.set_cons_zero, List.set_cons_succ]
          generalize W83.alloc (.cells #[.slice none 0 0, .slice none 0 0] 25) = W93 at *
          try rw [← hg]
          clear hg
          refine wpAnyH_ready (rs := [5]) (by kernel_rfl) (by simp) ?_
          refine AllReadyH.cons (oper_at (r := _) rfl) (fun K hK => ?_) AllReadyH.nil
          refine step_append_many (E := EBy) (by rfl) _ _ 53 5 (by rfl) Tryd.underlying53 infoBy rfl (by decide) (by decide) wd.heap.size v3 y (by rfl) V3_W93.out Ax x.length cx W93.heap.size x (by rfl) rfl (HXR.out W93 (HSD.out.1.trans (WD_W93.out.mono HSD.out.1.size))) (by have := HXL.out; omega) (by have := HXL.out; omega) WD_W93.out.size ?_
          intro v5 W94 ho hgr hb _
          have O_W94 := Lib.hid ((hgr.block go O_W93.out.lt (ownsRow_far V3_W93.out O_W93.out (by decide)).symm).trans O_W93.out)
          have O_W94 : Hid (BX go (.slice none 0 0) (.slice none 0 0) 27 W94) := O_W94
          have C_W94 := Lib.hid ((hgr.block gc C_W93.out.lt (ownsRow_far V3_W93.out C_W93.out (by decide)).symm).trans C_W93.out)
          have C_W94 : Hid (BX gc (.slice none 0 0) (.slice none 0 0) 25 W94) := C_W94
          have WD_W94 := Lib.hid (WD_W93.out.trans hb)
          have V5_W94 := Lib.hid ho
          clear ho hgr hb
          refine hK.out _ _ (HM.out _ WD_W94.out) (fun _ => ?_)
          clear hK K
          try simp only [Act.put, List.setIfInBounds_toArray, List.set_cons_zero, List.set_cons_succ]
          refine wpAnyH_ready (rs := [6]) (by kernel_rfl) (by simp) ?_
          refine AllReadyH.cons (oper_at (r := _) rfl) (fun K hK => ?_) AllReadyH.nil
          go_simp
          refine (HIM.out _ (HYD.out.up WD_W94.out) v5 _ V5_W94.out).mono ?_
          rintro e W95 ⟨⟨Z, rfl, hz, hk⟩, hb⟩
          have WD_W95 := Lib.hid (WD_W94.out.trans (hb.mono WD_W94.out.size))
          have O_W95 := Lib.hid (O_W94.out.up hb)
          have C_W95 := Lib.hid (C_W94.out.up hb)
          clear WD_W94 O_W94 C_W94
          have Z_W95 := Lib.hid hz
          have HKZ := Lib.hid hk
          clear hb hz hk
          go_wp2_with fail
          refine hK.out _ _ (HM.out _ WD_W95.out) (fun _ => ?_)
          clear hK K
          try simp only [Act.put, List.setIfInBounds_toArray, List.set_cons_zero, List.set_cons_succ]
          refine wpAnyH_take (i := 7) (v := ?_) (oper_at (r := _) rfl) (by kernel_rfl) (by kernel_rfl) (by kernel_rfl) (fun _ _ _ h => h) (Or.inl ⟨by rfl, ?_⟩) (by assumption) ?_
          rotate_left
          · intro w hSw; try dsimp only at hSw
            go_simp
            try with_reducible rfl
          try simp only [Act.put, List.setIfInBounds_toArray, List.set_cons_zero, List.set_cons_succ]
          refine wpAnyH_take (i := 8) (v := ?_) (oper_at (r := _) rfl) (by kernel_rfl) (by kernel_rfl) (by kernel_rfl) (fun _ _ _ h => h) (Or.inl ⟨by rfl, ?_⟩) (by assumption) ?_
          rotate_left
          · intro w hSw; try dsimp only at hSw
            go_simp
            try with_reducible rfl
          try simp only [Act.put, List.setIfInBounds_toArray, List.set_cons_zero, List.set_cons_succ]
          refine wpAnyH_take (i := 9) (v := ?_) (oper_at (r := _) rfl) (by kernel_rfl) (by kernel_rfl) (by kernel_rfl) (fun _ _ _ h => h) (Or.inl ⟨by rfl, ?_⟩) (by assumption) ?_
          rotate_left
          · intro w hSw; try dsimp only at hSw
            go_simp
            try with_reducible rfl
          try simp only [Act.put, List.setIfInBounds_toArray, List.set_cons_zero, List.set_cons_succ]
          refine wpAnyH_ready (rs := [12]) (by kernel_rfl) (by simp) ?_
          refine AllReadyH.cons (oper_at (r := _) rfl) (fun K hK => ?_) AllReadyH.nil
          have fr0 := C_W95.out.free 0
          have fr1 := C_W95.out.free 1
          obtain ⟨e0, e1⟩ := C_W95.out.cells
          go_simp
          clear fr0 fr1 e0 e1
          have WD_W96 := Lib.hid ((WD_W95.out.setCell (p := ⟨gc, 0, none⟩) (by show wd.heap.size ≤ gc; omega) (.slice Z.An Z.g.ns.length Z.cn)).setCell (p := ⟨gc, 1, none⟩) (by show wd.heap.size ≤ gc; omega) (.slice Z.Ae Z.g.es.length Z.ce))
          have O_W96 := Lib.hid (O_W95.out.far ngcgo (.slice Z.An Z.g.ns.length Z.cn) (.slice Z.Ae Z.g.es.length Z.ce))
          have C_W96 := Lib.hid (C_W95.out.put (.slice Z.An Z.g.ns.length Z.cn) (.slice Z.Ae Z.g.es.length Z.ce))
          have Z_W96 := Lib.hid (Z_W95.out.box (w' := (W95.setCell ⟨gc, 0, none⟩ (.slice Z.An Z.g.ns.length Z.cn)).setCell ⟨gc, 1, none⟩ (.slice Z.Ae Z.g.es.length Z.ce)) C_W95.out HSL.out (fun i hi => (heap_setCell_other _ _ _ _ hi).trans (heap_setCell_other _ _ _ _ hi)) (by simp))
          clear WD_W95 O_W95 C_W95 Z_W95
          refine hK.out _ _ (HM.out _ WD_W96.out) (fun _ => ?_)
          clear hK K
          try simp only [Act.put, List.setIfInBounds_toArray, List.set_cons_zero, List.set_cons_succ]
          generalize (W95.setCell ⟨gc, 0, none⟩ (.slice Z.An Z.g.ns.length Z.cn)).setCell ⟨gc, 1, none⟩ (.slice Z.Ae Z.g.es.length Z.ce) = W96 at *
          refine wpAnyH_ready (rs := [13]) (by kernel_rfl) (by simp) ?_
          refine AllReadyH.cons (oper_at (r := _) rfl) (fun K hK => ?_) AllReadyH.nil
          have fr0 := O_W96.out.free 0
          have fr1 := O_W96.out.free 1
          obtain ⟨e0, e1⟩ := O_W96.out.cells
          go_simp
          clear fr0 fr1 e0 e1
          have WD_W97 := Lib.hid ((WD_W96.out.setCell (p := ⟨go, 0, none⟩) (by show wd.heap.size ≤ go; omega) (.slice Z.Mn Z.m.ns.length Z.mn)).setCell (p := ⟨go, 1, none⟩) (by show wd.heap.size ≤ go; omega) (.slice Z.Me Z.m.es.length Z.me))
          have O_W97 := Lib.hid (O_W96.out.put (.slice Z.Mn Z.m.ns.length Z.mn) (.slice Z.Me Z.m.es.length Z.me))
          have C_W97 := Lib.hid (C_W96.out.far ngogc (.slice Z.Mn Z.m.ns.length Z.mn) (.slice Z.Me Z.m.es.length Z.me))
          have Z_W97 := Lib.hid (Z_W96.out.box (w' := (W96.setCell ⟨go, 0, none⟩ (.slice Z.Mn Z.m.ns.length Z.mn)).setCell ⟨go, 1, none⟩ (.slice Z.Me Z.m.es.length Z.me)) O_W96.out HSL.out (fun i hi => (heap_setCell_other _ _ _ _ hi).trans (heap_setCell_other _ _ _ _ hi)) (by simp))
          clear WD_W96 O_W96 C_W96 Z_W96
          refine hK.out _ _ (HM.out _ WD_W97.out) (fun _ => ?_)
          clear hK K
          try simp only [Act.put, List.setIfInBounds_toArray, List.set_cons_zero, List.set_cons_succ]
          generalize (W96.setCell ⟨go, 0, none⟩ (.slice Z.Mn Z.m.ns.length Z.mn)).setCell ⟨go, 1, none⟩ (.slice Z.Me Z.m.es.length Z.me) = W97 at *
          refine wpAnyH_done (by kernel_rfl) ?_ _
          refine NoPanic.normal ?_
          go_wp2_with fail
          go_meet
          exact ⟨gc, go, Z, rfl, rfl, C_W97.out, O_W97.out, Z_W97.out, HKZ.out, HVD.out.trans (WD_W97.out.mono HVD.out.size)⟩
      · skip
        obtain ⟨gc, hg⟩ : ∃ g, g = W82.heap.size := ⟨_, rfl⟩
        have lgc : wd.heap.size ≤ gc := by rw [hg]; exact WD_W82.out.size
        have ngcgo : go ≠ gc := by have := O_W82.out.lt; omega
        have ngogc : gc ≠ go := Ne.symm ngcgo
        have hx : BX gc (.slice none 0 0) (.slice none 0 0) 25 (W82.alloc (.cells #[.slice none 0 0, .slice none 0 0] 25)) := by rw [hg]; exact heap_alloc_new _ _
        have hb : Below W82.heap.size W82 (W82.alloc (.cells #[.slice none 0 0, .slice none 0 0] 25)) := (Below.refl _ _).alloc (Nat.le_refl _) _
        have WD_W98 := Lib.hid (WD_W82.out.trans (hb.mono WD_W82.out.size))
        have O_W98 := Lib.hid (O_W82.out.up hb)
        clear WD_W82 O_W82
        have C_W98 := Lib.hid hx
        clear hx hb
        go_simp
        refine hK.out _ _ (HM.out _ WD_W98.out) (fun _ => ?_)
        clear hK K
        try simp only [Act.put, List.setIfInBounds_toArray, List.set_cons_zero, List.set_cons_succ]
        generalize W82.alloc (.cells #[.slice none 0 0, .slice none 0 0] 25) = W98 at *
        try rw [← hg]
        clear hg
        refine wpAnyH_ready (rs := [3]) (by kernel_rfl) (by simp) ?_
        refine AllReadyH.cons (oper_at (r := _) rfl) (fun K hK => ?_) AllReadyH.nil
        go_simp
        refine (HCL.out _ (HSD.out.1.trans (WD_W98.out.mono HSD.out.1.size))).mono ?_
        rintro e W99 ⟨v3, rfl, ho, hb⟩
        have V3_W99 := Lib.hid (OwnE.mono ho WD_W98.out.size)
        have WD_W99 := Lib.hid (WD_W98.out.trans (hb.mono WD_W98.out.size))
        have O_W99 := Lib.hid (O_W98.out.up hb)
        have C_W99 := Lib.hid (C_W98.out.up hb)
        clear WD_W98 O_W98 C_W98
        clear hb ho
        go_wp2_with fail
        refine hK.out _ _ (HM.out _ WD_W99.out) (fun _ => ?_)
        clear hK K
        try simp only [Act.put, List.setIfInBounds_toArray, List.set_cons_zero, List.set_cons_succ]
        refine wpAnyH_ready (rs := [5]) (by kernel_rfl) (by simp) ?_
        refine AllReadyH.cons (oper_at (r := _) rfl) (fun K hK => ?_) AllReadyH.nil
        refine step_append_many (E := EBy) (by rfl) _ _ 53 5 (by rfl) Tryd.underlying53 infoBy rfl (by decide) (by decide) wd.heap.size v3 y (by rfl) V3_W99.out Ax x.length cx W99.heap.size x (by rfl) rfl (HXR.out W99 (HSD.out.1.trans (WD_W99.out.mono HSD.out.1.size))) (by have := HXL.out; omega) (by have := HXL.out; omega) WD_W99.out.size ?_
        intro v5 W100 ho hgr hb _
        have O_W100 := Lib.hid ((hgr.block go O_W99.out.lt (ownsRow_far V3_W99.out O_W99.out (by decide)).symm).trans O_W99.out)
        have O_W100 : Hid (BX go (.slice none 0 0) (.slice none 0 0) 27 W100) := O_W100
        have C_W100 := Lib.hid ((hgr.block gc C_W99.out.lt (ownsRow_far V3_W99.out C_W99.out (by decide)).symm).trans C_W99.out)
        have C_W100 : Hid (BX gc (.slice none 0 0) (.slice none 0 0) 25 W100) := C_W100
        have WD_W100 := Lib.hid (WD_W99.out.trans hb)
        have V5_W100 := Lib.hid ho
        clear ho hgr hb
        refine hK.out _ _ (HM.out _ WD_W100.out) (fun _ => ?_)
        clear hK K
        try simp only [Act.put, List.setIfInBounds_toArray, List.set_cons_zero, List.set_cons_succ]
        refine wpAnyH_ready (rs := [6]) (by kernel_rfl) (by simp) ?_
        refine AllReadyH.cons (oper_at (r := _) rfl) (fun K hK => ?_) AllReadyH.nil
        go_simp
        refine (HIM.out _ (HYD.out.up WD_W100.out) v5 _ V5_W100.out).mono ?_
        rintro e W101 ⟨⟨Z, rfl, hz, hk⟩, hb⟩
        have WD_W101 := Lib.hid (WD_W100.out.trans (hb.mono WD_W100.out.size))
        have O_W101 := Lib.hid (O_W100.out.up hb)
        have C_W101 := Lib.hid (C_W100.out.up hb)
        clear WD_W100 O_W100 C_W100
        have Z_W101 := Lib.hid hz
        have HKZ := Lib.hid hk
        clear hb hz hk
        go_wp2_with fail
        refine hK.out _ _ (HM.out _ WD_W101.out) (fun _ => ?_)
        clear hK K
        try simp only [Act.put, List.setIfInBounds_toArray, List.set_cons_zero, List.set_cons_succ]
        refine wpAnyH_take (i := 7) (v := ?_) (oper_at (r := _) rfl) (by kernel_rfl) (by kernel_rfl) (by kernel_rfl) (fun _ _ _ h => h) (Or.inl ⟨by rfl, ?_⟩) (by assumption) ?_
        rotate_left
        · intro w hSw; try dsimp only at hSw
          go_simp
          try with_reducible rfl
        try simp only [Act.put, List.setIfInBounds_toArray, List.set_cons_zero, List.set_cons_succ]
        refine wpAnyH_take (i := 8) (v := ?_) (oper_at (r := _) rfl) (by kernel_rfl) (by kernel_rfl) (by kernel_rfl) (fun _ _ _ h => h) (Or.inl ⟨by rfl, ?_⟩) (by assumption) ?_
        rotate_left
        · intro w hSw; try dsimp only at hSw
          go_simp
          try with_reducible rfl
        try simp only [Act.put, List.setIfInBounds_toArray, List.set_cons_zero, List.set_cons_succ]
        refine wpAnyH_take (i := 9) (v := ?_) (oper_at (r := _) rfl) (by kernel_rfl) (by kernel_rfl) (by kernel_rfl) (fun _ _ _ h => h) (Or.inl ⟨by rfl, ?_⟩) (by assumption) ?_
        rotate_left
        · intro w hSw; try dsimp only at hSw
          go_simp
          try with_reducible rfl
        try simp only [Act.put, List.setIfInBounds_toArray, List.set_cons_zero, List.set_cons_succ]
        refine wpAnyH_ready (rs := [12]) (by kernel_rfl) (by simp) ?_
        refine AllReadyH.cons (oper_at (r := _) rfl) (fun K hK => ?_) AllReadyH.nil
        have fr0 := C_W101.out.free 0
        have fr1 := C_W101.out.free 1
        obtain ⟨e0, e1⟩ := C_W101.out.cells
        go_simp
        clear fr0 fr1 e0 e1
        have WD_W102 := Lib.hid ((WD_W101.out.setCell (p := ⟨gc, 0, none⟩) (by show wd.heap.size ≤ gc; omega) (.slice Z.An Z.g.ns.length Z.cn)).setCell (p := ⟨gc, 1, none⟩) (by show wd.heap.size ≤ gc; omega) (.slice Z.Ae Z.g.es.length Z.ce))
        have O_W102 := Lib.hid (O_W101.out.far ngcgo (.slice Z.An Z.g.ns.length Z.cn) (.slice Z.Ae Z.g.es.length Z.ce))
        have C_W102 := Lib.hid (C_W101.out.put (.slice Z.An Z.g.ns.length Z.cn) (.slice Z.Ae Z.g.es.length Z.ce))
        have Z_W102 := Lib.hid (Z_W101.out.box (w' := (W101.setCell ⟨gc, 0, none⟩ (.slice Z.An Z.g.ns.length Z.cn)).setCell ⟨gc, 1, none⟩ (.slice Z.Ae Z.g.es.length Z.ce)) C_W101.out HSL.out (fun i hi => (heap_setCell_other _ _ _ _ hi).trans (heap_setCell_other _ _ _ _ hi)) (by simp))
        clear WD_W101 O_W101 C_W101 Z_W101
        refine hK.out _ _ (HM.out _ WD_W102.out) (fun _ => ?_)
        clear hK K
        try simp only [Act.put, List.setIfInBounds_toArray, List.set_cons_zero, List.set_cons_succ]
        generalize (W101.setCell ⟨gc, 0, none⟩ (.slice Z.An Z.g.ns.length Z.cn)).setCell ⟨gc, 1, none⟩ (.slice Z.Ae Z.g.es.length Z.ce) = W102 at *
        refine wpAnyH_ready (rs := [13]) (by kernel_rfl) (by simp) ?_
        refine AllReadyH.cons (oper_at (r := _) rfl) (fun K hK => ?_) AllReadyH.nil
        have fr0 := O_W102.out.free 0
        have fr1 := O_W102.out.free 1
        obtain ⟨e0, e1⟩ := O_W102.out.cells
        go_simp
        clear fr0 fr1 e0 e1
        have WD_W103 := Lib.hid ((WD_W102.out.setCell (p := ⟨go, 0, none⟩) (by show wd.heap.size ≤ go; omega) (.slice Z.Mn Z.m.ns.length Z.mn)).setCell (p := ⟨go, 1, none⟩) (by show wd.heap.size ≤ go; omega) (.slice Z.Me Z.m.es.length Z.me))
        have O_W103 := Lib.hid (O_W102.out.put (.slice Z.Mn Z.m.ns.length Z.mn) (.slice Z.Me Z.m.es.length Z.me))
        have C_W103 := Lib.hid (C_W102.out.far ngogc (.slice Z.Mn Z.m.ns.length Z.mn) (.slice Z.Me Z.m.es.length Z.me))
        have Z_W103 := Lib.hid (Z_W102.out.box (w' := (W102.setCell ⟨go, 0, none⟩ (.slice Z.Mn Z.m.ns.length Z.mn)).setCell ⟨go, 1, none⟩ (.slice Z.Me Z.m.es.length Z.me)) O_W102.out HSL.out (fun i hi => (heap_setCell_other _ _ _ _ hi).trans (heap_setCell_other _ _ _ _ hi)) (by simp))
        clear WD_W102 O_W102 C_W102 Z_W102
        refine hK.out _ _ (HM.out _ WD_W103.out) (fun _ => ?_)
        clear hK K
        try simp only [Act.put, List.setIfInBounds_toArray, List.set_cons_zero, List.set_cons_succ]
        generalize (W102.setCell ⟨go, 0, none⟩ (.slice Z.Mn Z.m.ns.length Z.mn)).setCell ⟨go, 1, none⟩ (.slice Z.Me Z.m.es.length Z.me) = W103 at *
        refine wpAnyH_done (by kernel_rfl) ?_ _
        refine NoPanic.normal ?_
        go_wp2_with fail
        go_meet
        exact ⟨gc, go, Z, rfl, rfl, C_W103.out, O_W103.out, Z_W103.out, HKZ.out, HVD.out.trans (WD_W103.out.mono HVD.out.size)⟩
  case rest =>
    obtain ⟨gc, go, Z, rfl, rfl, hC, hO, hZ, hKZ, hB⟩ := hcut
    have S0 := Lib.hid (HS3.out.up hB)
    have K0 := Lib.hid (HK3.out.up hB)
    have A0 := Lib.hid (HGA.out.up hB)
    have P0 := Lib.hid (heap_up hB HGP.out)
    have Q0 := Lib.hid (heap_up hB HGQ.out)
    have C0 := Lib.hid hC
    have O0 := Lib.hid hO
    have Z0 := Lib.hid hZ
    have HKZ := Lib.hid hKZ
    have HASS := Lib.hid (comp_assoc HKX.out HKY.out hKZ)
    have HIDL := Lib.hid (id_left HKX.out)
    have HXL2 : Hid (R2 X.m) := Lib.hid (by have h1 := HKX.out.ln; have h2 := HKX.out.le; obtain ⟨v1, v2, _⟩ := valid_zero HKX.out.va; exact ⟨by unfold maxLen; omega, by unfold maxLen; omega⟩)
    clear hC hO hZ hKZ hB HS3 HK3 HGA HGP HGQ HIM HCL HXR HSL HXB HYB HXL HL8
    have a0 : wc.cell? ⟨ga, 0, none⟩ = some (.slice A1 g.ns.length k1) := A0.out.cells.1
    have a1 : wc.cell? ⟨ga, 1, none⟩ = some (.slice A2 g.es.length k2) := A0.out.cells.2
    have p0 : wc.cell? ⟨ga + 1, 0, none⟩ = some (.slice X.An X.g.ns.length X.cn) := cell_of_row _ _ 0 _ _ _ P0.out
    have p1 : wc.cell? ⟨ga + 1, 1, none⟩ = some (.slice X.Ae X.g.es.length X.ce) := cell_of_row _ _ 1 _ _ _ P0.out
    have p2 : wc.cell? ⟨ga + 1, 2, none⟩ = some (.slice X.Mn X.m.ns.length X.mn) := cell_of_row _ _ 2 _ _ _ P0.out
    have p3 : wc.cell? ⟨ga + 1, 3, none⟩ = some (.slice X.Me X.m.es.length X.me) := cell_of_row _ _ 3 _ _ _ P0.out
    have q0 : wc.cell? ⟨ga + 1 + 1, 0, none⟩ = some (.slice Y.An Y.g.ns.length Y.cn) := cell_of_row _ _ 0 _ _ _ Q0.out
    have q1 : wc.cell? ⟨ga + 1 + 1, 1, none⟩ = some (.slice Y.Ae Y.g.es.length Y.ce) := cell_of_row _ _ 1 _ _ _ Q0.out
    have q2 : wc.cell? ⟨ga + 1 + 1, 2, none⟩ = some (.slice Y.Mn Y.m.ns.length Y.mn) := cell_of_row _ _ 2 _ _ _ Q0.out
    have q3 : wc.cell? ⟨ga + 1 + 1, 3, none⟩ = some (.slice Y.Me Y.m.es.length Y.me) := cell_of_row _ _ 3 _ _ _ Q0.out
    have c0 : wc.cell? ⟨gc, 0, none⟩ = some (.slice Z.An Z.g.ns.length Z.cn) := C0.out.cells.1
    have c1 : wc.cell? ⟨gc, 1, none⟩ = some (.slice Z.Ae Z.g.es.length Z.ce) := C0.out.cells.2
    have o0 : wc.cell? ⟨go, 0, none⟩ = some (.slice Z.Mn Z.m.ns.length Z.mn) := O0.out.cells.1
    have o1 : wc.cell? ⟨go, 1, none⟩ = some (.slice Z.Me Z.m.es.length Z.me) := O0.out.cells.2
    go_wp2_with fail
    refine (compose_gives (HKX.out) (HKY.out) A1 k1 A2 k2 X.An X.cn X.Ae X.ce Y.An Y.cn Y.Ae Y.ce X.Mn X.mn X.Me X.me Y.Mn Y.mn Y.Me Y.me _ K0.out.g K0.out.x.gr K0.out.y.gr K0.out.x.m1 K0.out.x.m2 K0.out.y.m1 K0.out.y.m2).mono ?_
    rintro e v1 ⟨⟨X1, x1, Y1, y1, rfl, r1, r2, r3, r4⟩, hb⟩
    have S_v1 := Lib.hid (S0.out.up hb)
    have K_v1 := Lib.hid (K0.out.up hb)
    have A_v1 := Lib.hid (A0.out.up hb)
    have P_v1 := Lib.hid (heap_up hb P0.out)
    have Q_v1 := Lib.hid (heap_up hb Q0.out)
    have C_v1 := Lib.hid (C0.out.up hb)
    have O_v1 := Lib.hid (O0.out.up hb)
    have Z_v1 := Lib.hid (Z0.out.up hb)
    clear S0 K0 A0 P0 Q0 C0 O0 Z0
    have R1_v1 := Lib.hid r1
    have R2_v1 := Lib.hid r2
    have HL := Lib.hid (And.intro r3 r4)
    clear r1 r2 r3 r4 hb 
    go_upto_region 6 with fail
    have hb : Below v1.heap.size v1 (v1.alloc (.cells #[.slice X1 (compM X.m Y.m).ns.length x1, .slice Y1 (compM X.m Y.m).es.length y1] 27)) := (Below.refl _ _).alloc (Nat.le_refl _) _
    have hx : BX v1.heap.size (.slice X1 (compM X.m Y.m).ns.length x1) (.slice Y1 (compM X.m Y.m).es.length y1) 27 (v1.alloc (.cells #[.slice X1 (compM X.m Y.m).ns.length x1, .slice Y1 (compM X.m Y.m).es.length y1] 27)) := heap_alloc_new _ _
    have S_V1 := Lib.hid (S_v1.out.up hb)
    have K_V1 := Lib.hid (K_v1.out.up hb)
    have A_V1 := Lib.hid (A_v1.out.up hb)
    have P_V1 := Lib.hid (heap_up hb P_v1.out)
    have Q_V1 := Lib.hid (heap_up hb Q_v1.out)
    have C_V1 := Lib.hid (C_v1.out.up hb)
    have O_V1 := Lib.hid (O_v1.out.up hb)
    have Z_V1 := Lib.hid (Z_v1.out.up hb)
    have R11_V1 := Lib.hid (Reads.up R1_v1.out hb)
    have R21_V1 := Lib.hid (Reads.up R2_v1.out hb)
    clear S_v1 K_v1 A_v1 P_v1 Q_v1 C_v1 O_v1 Z_v1 R1_v1 R2_v1
    have B1_V1 := Lib.hid hx
    clear hb hx
    generalize v1.alloc (.cells #[.slice X1 (compM X.m Y.m).ns.length x1, .slice Y1 (compM X.m Y.m).es.length y1] 27) = V1 at *
    generalize v1.heap.size = g1 at *
    have HL1 := HL
    have a0 : V1.cell? ⟨ga, 0, none⟩ = some (.slice A1 g.ns.length k1) := A_V1.out.cells.1
    have a1 : V1.cell? ⟨ga, 1, none⟩ = some (.slice A2 g.es.length k2) := A_V1.out.cells.2
    have p0 : V1.cell? ⟨ga + 1, 0, none⟩ = some (.slice X.An X.g.ns.length X.cn) := cell_of_row _ _ 0 _ _ _ P_V1.out
    have p1 : V1.cell? ⟨ga + 1, 1, none⟩ = some (.slice X.Ae X.g.es.length X.ce) := cell_of_row _ _ 1 _ _ _ P_V1.out
    have p2 : V1.cell? ⟨ga + 1, 2, none⟩ = some (.slice X.Mn X.m.ns.length X.mn) := cell_of_row _ _ 2 _ _ _ P_V1.out
    have p3 : V1.cell? ⟨ga + 1, 3, none⟩ = some (.slice X.Me X.m.es.length X.me) := cell_of_row _ _ 3 _ _ _ P_V1.out
    have q0 : V1.cell? ⟨ga + 1 + 1, 0, none⟩ = some (.slice Y.An Y.g.ns.length Y.cn) := cell_of_row _ _ 0 _ _ _ Q_V1.out
    have q1 : V1.cell? ⟨ga + 1 + 1, 1, none⟩ = some (.slice Y.Ae Y.g.es.length Y.ce) := cell_of_row _ _ 1 _ _ _ Q_V1.out
    have q2 : V1.cell? ⟨ga + 1 + 1, 2, none⟩ = some (.slice Y.Mn Y.m.ns.length Y.mn) := cell_of_row _ _ 2 _ _ _ Q_V1.out
    have q3 : V1.cell? ⟨ga + 1 + 1, 3, none⟩ = some (.slice Y.Me Y.m.es.length Y.me) := cell_of_row _ _ 3 _ _ _ Q_V1.out
    have c0 : V1.cell? ⟨gc, 0, none⟩ = some (.slice Z.An Z.g.ns.length Z.cn) := C_V1.out.cells.1
    have c1 : V1.cell? ⟨gc, 1, none⟩ = some (.slice Z.Ae Z.g.es.length Z.ce) := C_V1.out.cells.2
    have o0 : V1.cell? ⟨go, 0, none⟩ = some (.slice Z.Mn Z.m.ns.length Z.mn) := O_V1.out.cells.1
    have o1 : V1.cell? ⟨go, 1, none⟩ = some (.slice Z.Me Z.m.es.length Z.me) := O_V1.out.cells.2
    have m10 : V1.cell? ⟨g1, 0, none⟩ = some (.slice X1 (compM X.m Y.m).ns.length x1) := B1_V1.out.cells.1
    have m11 : V1.cell? ⟨g1, 1, none⟩ = some (.slice Y1 (compM X.m Y.m).es.length y1) := B1_V1.out.cells.2
    go_wp2_with fail
    refine (compose_gives (HKY.out) (HKZ.out) X.An X.cn X.Ae X.ce Y.An Y.cn Y.Ae Y.ce Z.An Z.cn Z.Ae Z.ce Y.Mn Y.mn Y.Me Y.me Z.Mn Z.mn Z.Me Z.me _ K_V1.out.x.gr K_V1.out.y.gr Z_V1.out.gr K_V1.out.y.m1 K_V1.out.y.m2 Z_V1.out.m1 Z_V1.out.m2).mono ?_
    rintro e v2 ⟨⟨X2, x2, Y2, y2, rfl, r1, r2, r3, r4⟩, hb⟩
    have S_v2 := Lib.hid (S_V1.out.up hb)
    have K_v2 := Lib.hid (K_V1.out.up hb)
    have A_v2 := Lib.hid (A_V1.out.up hb)
    have P_v2 := Lib.hid (heap_up hb P_V1.out)
    have Q_v2 := Lib.hid (heap_up hb Q_V1.out)
    have C_v2 := Lib.hid (C_V1.out.up hb)
    have O_v2 := Lib.hid (O_V1.out.up hb)
    have Z_v2 := Lib.hid (Z_V1.out.up hb)
    have R11_v2 := Lib.hid (Reads.up R11_V1.out hb)
    have R21_v2 := Lib.hid (Reads.up R21_V1.out hb)
    have B1_v2 := Lib.hid (B1_V1.out.up hb)
    clear S_V1 K_V1 A_V1 P_V1 Q_V1 C_V1 O_V1 Z_V1 R11_V1 R21_V1 B1_V1
    have R1_v2 := Lib.hid r1
    have R2_v2 := Lib.hid r2
    have HL := Lib.hid (And.intro r3 r4)
    clear r1 r2 r3 r4 hb 
    go_upto_region 7 with fail
    have hb : Below v2.heap.size v2 (v2.alloc (.cells #[.slice X2 (compM Y.m Z.m).ns.length x2, .slice Y2 (compM Y.m Z.m).es.length y2] 27)) := (Below.refl _ _).alloc (Nat.le_refl _) _
    have hx : BX v2.heap.size (.slice X2 (compM Y.m Z.m).ns.length x2) (.slice Y2 (compM Y.m Z.m).es.length y2) 27 (v2.alloc (.cells #[.slice X2 (compM Y.m Z.m).ns.length x2, .slice Y2 (compM Y.m Z.m).es.length y2] 27)) := heap_alloc_new _ _
    have S_V2 := Lib.hid (S_v2.out.up hb)
    have K_V2 := Lib.hid (K_v2.out.up hb)
    have A_V2 := Lib.hid (A_v2.out.up hb)
    have P_V2 := Lib.hid (heap_up hb P_v2.out)
    have Q_V2 := Lib.hid (heap_up hb Q_v2.out)
    have C_V2 := Lib.hid (C_v2.out.up hb)
    have O_V2 := Lib.hid (O_v2.out.up hb)
    have Z_V2 := Lib.hid (Z_v2.out.up hb)
    have R11_V2 := Lib.hid (Reads.up R11_v2.out hb)
    have R21_V2 := Lib.hid (Reads.up R21_v2.out hb)
    have B1_V2 := Lib.hid (B1_v2.out.up hb)
    have R12_V2 := Lib.hid (Reads.up R1_v2.out hb)
    have R22_V2 := Lib.hid (Reads.up R2_v2.out hb)
    clear S_v2 K_v2 A_v2 P_v2 Q_v2 C_v2 O_v2 Z_v2 R11_v2 R21_v2 B1_v2 R1_v2 R2_v2
    have B2_V2 := Lib.hid hx
    clear hb hx
    generalize v2.alloc (.cells #[.slice X2 (compM Y.m Z.m).ns.length x2, .slice Y2 (compM Y.m Z.m).es.length y2] 27) = V2 at *
    generalize v2.heap.size = g2 at *
    have HL2 := HL
    have a0 : V2.cell? ⟨ga, 0, none⟩ = some (.slice A1 g.ns.length k1) := A_V2.out.cells.1
    have a1 : V2.cell? ⟨ga, 1, none⟩ = some (.slice A2 g.es.length k2) := A_V2.out.cells.2
    have p0 : V2.cell? ⟨ga + 1, 0, none⟩ = some (.slice X.An X.g.ns.length X.cn) := cell_of_row _ _ 0 _ _ _ P_V2.out
    have p1 : V2.cell? ⟨ga + 1, 1, none⟩ = some (.slice X.Ae X.g.es.length X.ce) := cell_of_row _ _ 1 _ _ _ P_V2.out
    have p2 : V2.cell? ⟨ga + 1, 2, none⟩ = some (.slice X.Mn X.m.ns.length X.mn) := cell_of_row _ _ 2 _ _ _ P_V2.out
    have p3 : V2.cell? ⟨ga + 1, 3, none⟩ = some (.slice X.Me X.m.es.length X.me) := cell_of_row _ _ 3 _ _ _ P_V2.out
    have q0 : V2.cell? ⟨ga + 1 + 1, 0, none⟩ = some (.slice Y.An Y.g.ns.length Y.cn) := cell_of_row _ _ 0 _ _ _ Q_V2.out
    have q1 : V2.cell? ⟨ga + 1 + 1, 1, none⟩ = some (.slice Y.Ae Y.g.es.length Y.ce) := cell_of_row _ _ 1 _ _ _ Q_V2.out
    have q2 : V2.cell? ⟨ga + 1 + 1, 2, none⟩ = some (.slice Y.Mn Y.m.ns.length Y.mn) := cell_of_row _ _ 2 _ _ _ Q_V2.out
    have q3 : V2.cell? ⟨ga + 1 + 1, 3, none⟩ = some (.slice Y.Me Y.m.es.length Y.me) := cell_of_row _ _ 3 _ _ _ Q_V2.out
    have c0 : V2.cell? ⟨gc, 0, none⟩ = some (.slice Z.An Z.g.ns.length Z.cn) := C_V2.out.cells.1
    have c1 : V2.cell? ⟨gc, 1, none⟩ = some (.slice Z.Ae Z.g.es.length Z.ce) := C_V2.out.cells.2
    have o0 : V2.cell? ⟨go, 0, none⟩ = some (.slice Z.Mn Z.m.ns.length Z.mn) := O_V2.out.cells.1
    have o1 : V2.cell? ⟨go, 1, none⟩ = some (.slice Z.Me Z.m.es.length Z.me) := O_V2.out.cells.2
    have m10 : V2.cell? ⟨g1, 0, none⟩ = some (.slice X1 (compM X.m Y.m).ns.length x1) := B1_V2.out.cells.1
    have m11 : V2.cell? ⟨g1, 1, none⟩ = some (.slice Y1 (compM X.m Y.m).es.length y1) := B1_V2.out.cells.2
    have m20 : V2.cell? ⟨g2, 0, none⟩ = some (.slice X2 (compM Y.m Z.m).ns.length x2) := B2_V2.out.cells.1
    have m21 : V2.cell? ⟨g2, 1, none⟩ = some (.slice Y2 (compM Y.m Z.m).es.length y2) := B2_V2.out.cells.2
    go_wp2_with fail
    refine (compose_gives (comp_ok (HKX.out) (HKY.out)) (HKZ.out) A1 k1 A2 k2 Y.An Y.cn Y.Ae Y.ce Z.An Z.cn Z.Ae Z.ce X1 x1 Y1 y1 Z.Mn Z.mn Z.Me Z.me _ K_V2.out.g K_V2.out.y.gr Z_V2.out.gr R11_V2.out R21_V2.out Z_V2.out.m1 Z_V2.out.m2).mono ?_
    rintro e v3 ⟨⟨X3, x3, Y3, y3, rfl, r1, r2, r3, r4⟩, hb⟩
    have S_v3 := Lib.hid (S_V2.out.up hb)
    have K_v3 := Lib.hid (K_V2.out.up hb)
    have A_v3 := Lib.hid (A_V2.out.up hb)
    have P_v3 := Lib.hid (heap_up hb P_V2.out)
    have Q_v3 := Lib.hid (heap_up hb Q_V2.out)
    have C_v3 := Lib.hid (C_V2.out.up hb)
    have O_v3 := Lib.hid (O_V2.out.up hb)
    have Z_v3 := Lib.hid (Z_V2.out.up hb)
    have R11_v3 := Lib.hid (Reads.up R11_V2.out hb)
    have R21_v3 := Lib.hid (Reads.up R21_V2.out hb)
    have B1_v3 := Lib.hid (B1_V2.out.up hb)
    have R12_v3 := Lib.hid (Reads.up R12_V2.out hb)
    have R22_v3 := Lib.hid (Reads.up R22_V2.out hb)
    have B2_v3 := Lib.hid (B2_V2.out.up hb)
    clear S_V2 K_V2 A_V2 P_V2 Q_V2 C_V2 O_V2 Z_V2 R11_V2 R21_V2 B1_V2 R12_V2 R22_V2 B2_V2
    have R1_v3 := Lib.hid r1
    have R2_v3 := Lib.hid r2
    have HL := Lib.hid (And.intro r3 r4)
    clear r1 r2 r3 r4 hb 
    go_upto_region 8 with fail
    have hb : Below v3.heap.size v3 (v3.alloc (.cells #[.slice X3 (compM (compM X.m Y.m) Z.m).ns.length x3, .slice Y3 (compM (compM X.m Y.m) Z.m).es.length y3] 27)) := (Below.refl _ _).alloc (Nat.le_refl _) _
    have hx : BX v3.heap.size (.slice X3 (compM (compM X.m Y.m) Z.m).ns.length x3) (.slice Y3 (compM (compM X.m Y.m) Z.m).es.length y3) 27 (v3.alloc (.cells #[.slice X3 (compM (compM X.m Y.m) Z.m).ns.length x3, .slice Y3 (compM (compM X.m Y.m) Z.m).es.length y3] 27)) := heap_alloc_new _ _
    have S_V3 := Lib.hid (S_v3.out.up hb)
    have K_V3 := Lib.hid (K_v3.out.up hb)
    have A_V3 := Lib.hid (A_v3.out.up hb)
    have P_V3 := Lib.hid (heap_up hb P_v3.out)
    have Q_V3 := Lib.hid (heap_up hb Q_v3.out)
    have C_V3 := Lib.hid (C_v3.out.up hb)
    have O_V3 := Lib.hid (O_v3.out.up hb)
    have Z_V3 := Lib.hid (Z_v3.out.up hb)
    have R11_V3 := Lib.hid (Reads.up R11_v3.out hb)
    have R21_V3 := Lib.hid (Reads.up R21_v3.out hb)
    have B1_V3 := Lib.hid (B1_v3.out.up hb)
    have R12_V3 := Lib.hid (Reads.up R12_v3.out hb)
    have R22_V3 := Lib.hid (Reads.up R22_v3.out hb)
    have B2_V3 := Lib.hid (B2_v3.out.up hb)
    have R13_V3 := Lib.hid (Reads.up R1_v3.out hb)
    have R23_V3 := Lib.hid (Reads.up R2_v3.out hb)
    clear S_v3 K_v3 A_v3 P_v3 Q_v3 C_v3 O_v3 Z_v3 R11_v3 R21_v3 B1_v3 R12_v3 R22_v3 B2_v3 R1_v3 R2_v3
    have B3_V3 := Lib.hid hx
    clear hb hx
    generalize v3.alloc (.cells #[.slice X3 (compM (compM X.m Y.m) Z.m).ns.length x3, .slice Y3 (compM (compM X.m Y.m) Z.m).es.length y3] 27) = V3 at *
    generalize v3.heap.size = g3 at *
    have HL3 := HL
    have a0 : V3.cell? ⟨ga, 0, none⟩ = some (.slice A1 g.ns.length k1) := A_V3.out.cells.1
    have a1 : V3.cell? ⟨ga, 1, none⟩ = some (.slice A2 g.es.length k2) := A_V3.out.cells.2
    have p0 : V3.cell? ⟨ga + 1, 0, none⟩ = some (.slice X.An X.g.ns.length X.cn) := cell_of_row _ _ 0 _ _ _ P_V3.out
    have p1 : V3.cell? ⟨ga + 1, 1, none⟩ = some (.slice X.Ae X.g.es.length X.ce) := cell_of_row _ _ 1 _ _ _ P_V3.out
    have p2 : V3.cell? ⟨ga + 1, 2, none⟩ = some (.slice X.Mn X.m.ns.length X.mn) := cell_of_row _ _ 2 _ _ _ P_V3.out
    have p3 : V3.cell? ⟨ga + 1, 3, none⟩ = some (.slice X.Me X.m.es.length X.me) := cell_of_row _ _ 3 _ _ _ P_V3.out
    have q0 : V3.cell? ⟨ga + 1 + 1, 0, none⟩ = some (.slice Y.An Y.g.ns.length Y.cn) := cell_of_row _ _ 0 _ _ _ Q_V3.out
    have q1 : V3.cell? ⟨ga + 1 + 1, 1, none⟩ = some (.slice Y.Ae Y.g.es.length Y.ce) := cell_of_row _ _ 1 _ _ _ Q_V3.out
    have q2 : V3.cell? ⟨ga + 1 + 1, 2, none⟩ = some (.slice Y.Mn Y.m.ns.length Y.mn) := cell_of_row _ _ 2 _ _ _ Q_V3.out
    have q3 : V3.cell? ⟨ga + 1 + 1, 3, none⟩ = some (.slice Y.Me Y.m.es.length Y.me) := cell_of_row _ _ 3 _ _ _ Q_V3.out
    have c0 : V3.cell? ⟨gc, 0, none⟩ = some (.slice Z.An Z.g.ns.length Z.cn) := C_V3.out.cells.1
    have c1 : V3.cell? ⟨gc, 1, none⟩ = some (.slice Z.Ae Z.g.es.length Z.ce) := C_V3.out.cells.2
    have o0 : V3.cell? ⟨go, 0, none⟩ = some (.slice Z.Mn Z.m.ns.length Z.mn) := O_V3.out.cells.1
    have o1 : V3.cell? ⟨go, 1, none⟩ = some (.slice Z.Me Z.m.es.length Z.me) := O_V3.out.cells.2
    have m10 : V3.cell? ⟨g1, 0, none⟩ = some (.slice X1 (compM X.m Y.m).ns.length x1) := B1_V3.out.cells.1
    have m11 : V3.cell? ⟨g1, 1, none⟩ = some (.slice Y1 (compM X.m Y.m).es.length y1) := B1_V3.out.cells.2
    have m20 : V3.cell? ⟨g2, 0, none⟩ = some (.slice X2 (compM Y.m Z.m).ns.length x2) := B2_V3.out.cells.1
    have m21 : V3.cell? ⟨g2, 1, none⟩ = some (.slice Y2 (compM Y.m Z.m).es.length y2) := B2_V3.out.cells.2
    have m30 : V3.cell? ⟨g3, 0, none⟩ = some (.slice X3 (compM (compM X.m Y.m) Z.m).ns.length x3) := B3_V3.out.cells.1
    have m31 : V3.cell? ⟨g3, 1, none⟩ = some (.slice Y3 (compM (compM X.m Y.m) Z.m).es.length y3) := B3_V3.out.cells.2
    go_wp2_with fail
    refine ((show GivesM _ _ 0 (compM (compM X.m Y.m) Z.m) _ from by have h := compose_gives (HKX.out) (comp_ok (HKY.out) (HKZ.out)) A1 k1 A2 k2 X.An X.cn X.Ae X.ce Z.An Z.cn Z.Ae Z.ce X.Mn X.mn X.Me X.me X2 x2 Y2 y2 _ K_V3.out.g K_V3.out.x.gr Z_V3.out.gr K_V3.out.x.m1 K_V3.out.x.m2 R12_V3.out R22_V3.out; rw [← HASS.out] at h; exact h)).mono ?_
    rintro e v4 ⟨⟨X4, x4, Y4, y4, rfl, r1, r2, r3, r4⟩, hb⟩
    have S_v4 := Lib.hid (S_V3.out.up hb)
    have K_v4 := Lib.hid (K_V3.out.up hb)
    have A_v4 := Lib.hid (A_V3.out.up hb)
    have P_v4 := Lib.hid (heap_up hb P_V3.out)
    have Q_v4 := Lib.hid (heap_up hb Q_V3.out)
    have C_v4 := Lib.hid (C_V3.out.up hb)
    have O_v4 := Lib.hid (O_V3.out.up hb)
    have Z_v4 := Lib.hid (Z_V3.out.up hb)
    have R11_v4 := Lib.hid (Reads.up R11_V3.out hb)
    have R21_v4 := Lib.hid (Reads.up R21_V3.out hb)
    have B1_v4 := Lib.hid (B1_V3.out.up hb)
    have R12_v4 := Lib.hid (Reads.up R12_V3.out hb)
    have R22_v4 := Lib.hid (Reads.up R22_V3.out hb)
    have B2_v4 := Lib.hid (B2_V3.out.up hb)
    have R13_v4 := Lib.hid (Reads.up R13_V3.out hb)
    have R23_v4 := Lib.hid (Reads.up R23_V3.out hb)
    have B3_v4 := Lib.hid (B3_V3.out.up hb)
    clear S_V3 K_V3 A_V3 P_V3 Q_V3 C_V3 O_V3 Z_V3 R11_V3 R21_V3 B1_V3 R12_V3 R22_V3 B2_V3 R13_V3 R23_V3 B3_V3
    have R1_v4 := Lib.hid r1
    have R2_v4 := Lib.hid r2
    have HL := Lib.hid (And.intro r3 r4)
    clear r1 r2 r3 r4 hb 
    go_upto_region 9 with fail
    have hb : Below v4.heap.size v4 (v4.alloc (.cells #[.slice X4 (compM (compM X.m Y.m) Z.m).ns.length x4, .slice Y4 (compM (compM X.m Y.m) Z.m).es.length y4] 27)) := (Below.refl _ _).alloc (Nat.le_refl _) _
    have hx : BX v4.heap.size (.slice X4 (compM (compM X.m Y.m) Z.m).ns.length x4) (.slice Y4 (compM (compM X.m Y.m) Z.m).es.length y4) 27 (v4.alloc (.cells #[.slice X4 (compM (compM X.m Y.m) Z.m).ns.length x4, .slice Y4 (compM (compM X.m Y.m) Z.m).es.length y4] 27)) := heap_alloc_new _ _
    have S_V4 := Lib.hid (S_v4.out.up hb)
    have K_V4 := Lib.hid (K_v4.out.up hb)
    have A_V4 := Lib.hid (A_v4.out.up hb)
    have P_V4 := Lib.hid (heap_up hb P_v4.out)
    have Q_V4 := Lib.hid (heap_up hb Q_v4.out)
    have C_V4 := Lib.hid (C_v4.out.up hb)
    have O_V4 := Lib.hid (O_v4.out.up hb)
    have Z_V4 := Lib.hid (Z_v4.out.up hb)
    have R11_V4 := Lib.hid (Reads.up R11_v4.out hb)
    have R21_V4 := Lib.hid (Reads.up R21_v4.out hb)
    have B1_V4 := Lib.hid (B1_v4.out.up hb)
    have R12_V4 := Lib.hid (Reads.up R12_v4.out hb)
    have R22_V4 := Lib.hid (Reads.up R22_v4.out hb)
    have B2_V4 := Lib.hid (B2_v4.out.up hb)
    have R13_V4 := Lib.hid (Reads.up R13_v4.out hb)
    have R23_V4 := Lib.hid (Reads.up R23_v4.out hb)
    have B3_V4 := Lib.hid (B3_v4.out.up hb)
    have R14_V4 := Lib.hid (Reads.up R1_v4.out hb)
    have R24_V4 := Lib.hid (Reads.up R2_v4.out hb)
    clear S_v4 K_v4 A_v4 P_v4 Q_v4 C_v4 O_v4 Z_v4 R11_v4 R21_v4 B1_v4 R12_v4 R22_v4 B2_v4 R13_v4 R23_v4 B3_v4 R1_v4 R2_v4
    have B4_V4 := Lib.hid hx
    clear hb hx
    generalize v4.alloc (.cells #[.slice X4 (compM (compM X.m Y.m) Z.m).ns.length x4, .slice Y4 (compM (compM X.m Y.m) Z.m).es.length y4] 27) = V4 at *
    generalize v4.heap.size = g4 at *
    have HL4 := HL
    have a0 : V4.cell? ⟨ga, 0, none⟩ = some (.slice A1 g.ns.length k1) := A_V4.out.cells.1
    have a1 : V4.cell? ⟨ga, 1, none⟩ = some (.slice A2 g.es.length k2) := A_V4.out.cells.2
    have p0 : V4.cell? ⟨ga + 1, 0, none⟩ = some (.slice X.An X.g.ns.length X.cn) := cell_of_row _ _ 0 _ _ _ P_V4.out
    have p1 : V4.cell? ⟨ga + 1, 1, none⟩ = some (.slice X.Ae X.g.es.length X.ce) := cell_of_row _ _ 1 _ _ _ P_V4.out
    have p2 : V4.cell? ⟨ga + 1, 2, none⟩ = some (.slice X.Mn X.m.ns.length X.mn) := cell_of_row _ _ 2 _ _ _ P_V4.out
    have p3 : V4.cell? ⟨ga + 1, 3, none⟩ = some (.slice X.Me X.m.es.length X.me) := cell_of_row _ _ 3 _ _ _ P_V4.out
    have q0 : V4.cell? ⟨ga + 1 + 1, 0, none⟩ = some (.slice Y.An Y.g.ns.length Y.cn) := cell_of_row _ _ 0 _ _ _ Q_V4.out
    have q1 : V4.cell? ⟨ga + 1 + 1, 1, none⟩ = some (.slice Y.Ae Y.g.es.length Y.ce) := cell_of_row _ _ 1 _ _ _ Q_V4.out
    have q2 : V4.cell? ⟨ga + 1 + 1, 2, none⟩ = some (.slice Y.Mn Y.m.ns.length Y.mn) := cell_of_row _ _ 2 _ _ _ Q_V4.out
    have q3 : V4.cell? ⟨ga + 1 + 1, 3, none⟩ = some (.slice Y.Me Y.m.es.length Y.me) := cell_of_row _ _ 3 _ _ _ Q_V4.out
    have c0 : V4.cell? ⟨gc, 0, none⟩ = some (.slice Z.An Z.g.ns.length Z.cn) := C_V4.out.cells.1
    have c1 : V4.cell? ⟨gc, 1, none⟩ = some (.slice Z.Ae Z.g.es.length Z.ce) := C_V4.out.cells.2
    have o0 : V4.cell? ⟨go, 0, none⟩ = some (.slice Z.Mn Z.m.ns.length Z.mn) := O_V4.out.cells.1
    have o1 : V4.cell? ⟨go, 1, none⟩ = some (.slice Z.Me Z.m.es.length Z.me) := O_V4.out.cells.2
    have m10 : V4.cell? ⟨g1, 0, none⟩ = some (.slice X1 (compM X.m Y.m).ns.length x1) := B1_V4.out.cells.1
    have m11 : V4.cell? ⟨g1, 1, none⟩ = some (.slice Y1 (compM X.m Y.m).es.length y1) := B1_V4.out.cells.2
    have m20 : V4.cell? ⟨g2, 0, none⟩ = some (.slice X2 (compM Y.m Z.m).ns.length x2) := B2_V4.out.cells.1
    have m21 : V4.cell? ⟨g2, 1, none⟩ = some (.slice Y2 (compM Y.m Z.m).es.length y2) := B2_V4.out.cells.2
    have m30 : V4.cell? ⟨g3, 0, none⟩ = some (.slice X3 (compM (compM X.m Y.m) Z.m).ns.length x3) := B3_V4.out.cells.1
    have m31 : V4.cell? ⟨g3, 1, none⟩ = some (.slice Y3 (compM (compM X.m Y.m) Z.m).es.length y3) := B3_V4.out.cells.2
    have m40 : V4.cell? ⟨g4, 0, none⟩ = some (.slice X4 (compM (compM X.m Y.m) Z.m).ns.length x4) := B4_V4.out.cells.1
    have m41 : V4.cell? ⟨g4, 1, none⟩ = some (.slice Y4 (compM (compM X.m Y.m) Z.m).es.length y4) := B4_V4.out.cells.2
    go_wp2_with fail
    refine (ident_gives HKX.out.va A1 k1 A2 k2 _ K_V4.out.g).mono ?_
    rintro e v5 ⟨⟨X5, x5, Y5, y5, rfl, r1, r2, r3, r4⟩, hb⟩
    have S_v5 := Lib.hid (S_V4.out.up hb)
    have K_v5 := Lib.hid (K_V4.out.up hb)
    have A_v5 := Lib.hid (A_V4.out.up hb)
    have P_v5 := Lib.hid (heap_up hb P_V4.out)
    have Q_v5 := Lib.hid (heap_up hb Q_V4.out)
    have C_v5 := Lib.hid (C_V4.out.up hb)
    have O_v5 := Lib.hid (O_V4.out.up hb)
    have Z_v5 := Lib.hid (Z_V4.out.up hb)
    have R11_v5 := Lib.hid (Reads.up R11_V4.out hb)
    have R21_v5 := Lib.hid (Reads.up R21_V4.out hb)
    have B1_v5 := Lib.hid (B1_V4.out.up hb)
    have R12_v5 := Lib.hid (Reads.up R12_V4.out hb)
    have R22_v5 := Lib.hid (Reads.up R22_V4.out hb)
    have B2_v5 := Lib.hid (B2_V4.out.up hb)
    have R13_v5 := Lib.hid (Reads.up R13_V4.out hb)
    have R23_v5 := Lib.hid (Reads.up R23_V4.out hb)
    have B3_v5 := Lib.hid (B3_V4.out.up hb)
    have R14_v5 := Lib.hid (Reads.up R14_V4.out hb)
    have R24_v5 := Lib.hid (Reads.up R24_V4.out hb)
    have B4_v5 := Lib.hid (B4_V4.out.up hb)
    clear S_V4 K_V4 A_V4 P_V4 Q_V4 C_V4 O_V4 Z_V4 R11_V4 R21_V4 B1_V4 R12_V4 R22_V4 B2_V4 R13_V4 R23_V4 B3_V4 R14_V4 R24_V4 B4_V4
    have R1_v5 := Lib.hid r1
    have R2_v5 := Lib.hid r2
    have HL := Lib.hid (And.intro r3 r4)
    clear r1 r2 r3 r4 hb 
    go_upto_region 10 with fail
    have hb : Below v5.heap.size v5 (v5.alloc (.cells #[.slice X5 (idM g).ns.length x5, .slice Y5 (idM g).es.length y5] 27)) := (Below.refl _ _).alloc (Nat.le_refl _) _
    have hx : BX v5.heap.size (.slice X5 (idM g).ns.length x5) (.slice Y5 (idM g).es.length y5) 27 (v5.alloc (.cells #[.slice X5 (idM g).ns.length x5, .slice Y5 (idM g).es.length y5] 27)) := heap_alloc_new _ _
    have S_V5 := Lib.hid (S_v5.out.up hb)
    have K_V5 := Lib.hid (K_v5.out.up hb)
    have A_V5 := Lib.hid (A_v5.out.up hb)
    have P_V5 := Lib.hid (heap_up hb P_v5.out)
    have Q_V5 := Lib.hid (heap_up hb Q_v5.out)
    have C_V5 := Lib.hid (C_v5.out.up hb)
    have O_V5 := Lib.hid (O_v5.out.up hb)
    have Z_V5 := Lib.hid (Z_v5.out.up hb)
    have R11_V5 := Lib.hid (Reads.up R11_v5.out hb)
    have R21_V5 := Lib.hid (Reads.up R21_v5.out hb)
    have B1_V5 := Lib.hid (B1_v5.out.up hb)
    have R12_V5 := Lib.hid (Reads.up R12_v5.out hb)
    have R22_V5 := Lib.hid (Reads.up R22_v5.out hb)
    have B2_V5 := Lib.hid (B2_v5.out.up hb)
    have R13_V5 := Lib.hid (Reads.up R13_v5.out hb)
    have R23_V5 := Lib.hid (Reads.up R23_v5.out hb)
    have B3_V5 := Lib.hid (B3_v5.out.up hb)
    have R14_V5 := Lib.hid (Reads.up R14_v5.out hb)
    have R24_V5 := Lib.hid (Reads.up R24_v5.out hb)
    have B4_V5 := Lib.hid (B4_v5.out.up hb)
    have R15_V5 := Lib.hid (Reads.up R1_v5.out hb)
    have R25_V5 := Lib.hid (Reads.up R2_v5.out hb)
    clear S_v5 K_v5 A_v5 P_v5 Q_v5 C_v5 O_v5 Z_v5 R11_v5 R21_v5 B1_v5 R12_v5 R22_v5 B2_v5 R13_v5 R23_v5 B3_v5 R14_v5 R24_v5 B4_v5 R1_v5 R2_v5
    have B5_V5 := Lib.hid hx
    clear hb hx
    generalize v5.alloc (.cells #[.slice X5 (idM g).ns.length x5, .slice Y5 (idM g).es.length y5] 27) = V5 at *
    generalize v5.heap.size = g5 at *
    have HL5 := HL
    have a0 : V5.cell? ⟨ga, 0, none⟩ = some (.slice A1 g.ns.length k1) := A_V5.out.cells.1
    have a1 : V5.cell? ⟨ga, 1, none⟩ = some (.slice A2 g.es.length k2) := A_V5.out.cells.2
    have p0 : V5.cell? ⟨ga + 1, 0, none⟩ = some (.slice X.An X.g.ns.length X.cn) := cell_of_row _ _ 0 _ _ _ P_V5.out
    have p1 : V5.cell? ⟨ga + 1, 1, none⟩ = some (.slice X.Ae X.g.es.length X.ce) := cell_of_row _ _ 1 _ _ _ P_V5.out
    have p2 : V5.cell? ⟨ga + 1, 2, none⟩ = some (.slice X.Mn X.m.ns.length X.mn) := cell_of_row _ _ 2 _ _ _ P_V5.out
    have p3 : V5.cell? ⟨ga + 1, 3, none⟩ = some (.slice X.Me X.m.es.length X.me) := cell_of_row _ _ 3 _ _ _ P_V5.out
    have q0 : V5.cell? ⟨ga + 1 + 1, 0, none⟩ = some (.slice Y.An Y.g.ns.length Y.cn) := cell_of_row _ _ 0 _ _ _ Q_V5.out
    have q1 : V5.cell? ⟨ga + 1 + 1, 1, none⟩ = some (.slice Y.Ae Y.g.es.length Y.ce) := cell_of_row _ _ 1 _ _ _ Q_V5.out
    have q2 : V5.cell? ⟨ga + 1 + 1, 2, none⟩ = some (.slice Y.Mn Y.m.ns.length Y.mn) := cell_of_row _ _ 2 _ _ _ Q_V5.out
    have q3 : V5.cell? ⟨ga + 1 + 1, 3, none⟩ = some (.slice Y.Me Y.m.es.length Y.me) := cell_of_row _ _ 3 _ _ _ Q_V5.out
    have c0 : V5.cell? ⟨gc, 0, none⟩ = some (.slice Z.An Z.g.ns.length Z.cn) := C_V5.out.cells.1
    have c1 : V5.cell? ⟨gc, 1, none⟩ = some (.slice Z.Ae Z.g.es.length Z.ce) := C_V5.out.cells.2
    have o0 : V5.cell? ⟨go, 0, none⟩ = some (.slice Z.Mn Z.m.ns.length Z.mn) := O_V5.out.cells.1
    have o1 : V5.cell? ⟨go, 1, none⟩ = some (.slice Z.Me Z.m.es.length Z.me) := O_V5.out.cells.2
    have m10 : V5.cell? ⟨g1, 0, none⟩ = some (.slice X1 (compM X.m Y.m).ns.length x1) := B1_V5.out.cells.1
    have m11 : V5.cell? ⟨g1, 1, none⟩ = some (.slice Y1 (compM X.m Y.m).es.length y1) := B1_V5.out.cells.2
    have m20 : V5.cell? ⟨g2, 0, none⟩ = some (.slice X2 (compM Y.m Z.m).ns.length x2) := B2_V5.out.cells.1
    have m21 : V5.cell? ⟨g2, 1, none⟩ = some (.slice Y2 (compM Y.m Z.m).es.length y2) := B2_V5.out.cells.2
    have m30 : V5.cell? ⟨g3, 0, none⟩ = some (.slice X3 (compM (compM X.m Y.m) Z.m).ns.length x3) := B3_V5.out.cells.1
    have m31 : V5.cell? ⟨g3, 1, none⟩ = some (.slice Y3 (compM (compM X.m Y.m) Z.m).es.length y3) := B3_V5.out.cells.2
    have m40 : V5.cell? ⟨g4, 0, none⟩ = some (.slice X4 (compM (compM X.m Y.m) Z.m).ns.length x4) := B4_V5.out.cells.1
    have m41 : V5.cell? ⟨g4, 1, none⟩ = some (.slice Y4 (compM (compM X.m Y.m) Z.m).es.length y4) := B4_V5.out.cells.2
    have m50 : V5.cell? ⟨g5, 0, none⟩ = some (.slice X5 (idM g).ns.length x5) := B5_V5.out.cells.1
    have m51 : V5.cell? ⟨g5, 1, none⟩ = some (.slice Y5 (idM g).es.length y5) := B5_V5.out.cells.2
    go_wp2_with fail
    refine ((show GivesM _ _ 0 X.m _ from by have h := compose_gives (id_ok HKX.out.va) (HKX.out) A1 k1 A2 k2 A1 k1 A2 k2 X.An X.cn X.Ae X.ce X5 x5 Y5 y5 X.Mn X.mn X.Me X.me _ K_V5.out.g K_V5.out.g K_V5.out.x.gr R15_V5.out R25_V5.out K_V5.out.x.m1 K_V5.out.x.m2; rw [HIDL.out] at h; exact h)).mono ?_
    rintro e v6 ⟨⟨X6, x6, Y6, y6, rfl, r1, r2, r3, r4⟩, hb⟩
    have S_v6 := Lib.hid (S_V5.out.up hb)
    have K_v6 := Lib.hid (K_V5.out.up hb)
    have A_v6 := Lib.hid (A_V5.out.up hb)
    have P_v6 := Lib.hid (heap_up hb P_V5.out)
    have Q_v6 := Lib.hid (heap_up hb Q_V5.out)
    have C_v6 := Lib.hid (C_V5.out.up hb)
    have O_v6 := Lib.hid (O_V5.out.up hb)
    have Z_v6 := Lib.hid (Z_V5.out.up hb)
    have R11_v6 := Lib.hid (Reads.up R11_V5.out hb)
    have R21_v6 := Lib.hid (Reads.up R21_V5.out hb)
    have B1_v6 := Lib.hid (B1_V5.out.up hb)
    have R12_v6 := Lib.hid (Reads.up R12_V5.out hb)
    have R22_v6 := Lib.hid (Reads.up R22_V5.out hb)
    have B2_v6 := Lib.hid (B2_V5.out.up hb)
    have R13_v6 := Lib.hid (Reads.up R13_V5.out hb)
    have R23_v6 := Lib.hid (Reads.up R23_V5.out hb)
    have B3_v6 := Lib.hid (B3_V5.out.up hb)
    have R14_v6 := Lib.hid (Reads.up R14_V5.out hb)
    have R24_v6 := Lib.hid (Reads.up R24_V5.out hb)
    have B4_v6 := Lib.hid (B4_V5.out.up hb)
    have R15_v6 := Lib.hid (Reads.up R15_V5.out hb)
    have R25_v6 := Lib.hid (Reads.up R25_V5.out hb)
    have B5_v6 := Lib.hid (B5_V5.out.up hb)
    clear S_V5 K_V5 A_V5 P_V5 Q_V5 C_V5 O_V5 Z_V5 R11_V5 R21_V5 B1_V5 R12_V5 R22_V5 B2_V5 R13_V5 R23_V5 B3_V5 R14_V5 R24_V5 B4_V5 R15_V5 R25_V5 B5_V5
    have R1_v6 := Lib.hid r1
    have R2_v6 := Lib.hid r2
    have HL := Lib.hid (And.intro r3 r4)
    clear r1 r2 r3 r4 hb 
    go_upto_region 11 with fail
    have hb : Below v6.heap.size v6 (v6.alloc (.cells #[.slice X6 X.m.ns.length x6, .slice Y6 X.m.es.length y6] 27)) := (Below.refl _ _).alloc (Nat.le_refl _) _
    have hx : BX v6.heap.size (.slice X6 X.m.ns.length x6) (.slice Y6 X.m.es.length y6) 27 (v6.alloc (.cells #[.slice X6 X.m.ns.length x6, .slice Y6 X.m.es.length y6] 27)) := heap_alloc_new _ _
    have S_V6 := Lib.hid (S_v6.out.up hb)
    have K_V6 := Lib.hid (K_v6.out.up hb)
    have A_V6 := Lib.hid (A_v6.out.up hb)
    have P_V6 := Lib.hid (heap_up hb P_v6.out)
    have Q_V6 := Lib.hid (heap_up hb Q_v6.out)
    have C_V6 := Lib.hid (C_v6.out.up hb)
    have O_V6 := Lib.hid (O_v6.out.up hb)
    have Z_V6 := Lib.hid (Z_v6.out.up hb)
    have R11_V6 := Lib.hid (Reads.up R11_v6.out hb)
    have R21_V6 := Lib.hid (Reads.up R21_v6.out hb)
    have B1_V6 := Lib.hid (B1_v6.out.up hb)
    have R12_V6 := Lib.hid (Reads.up R12_v6.out hb)
    have R22_V6 := Lib.hid (Reads.up R22_v6.out hb)
    have B2_V6 := Lib.hid (B2_v6.out.up hb)
    have R13_V6 := Lib.hid (Reads.up R13_v6.out hb)
    have R23_V6 := Lib.hid (Reads.up R23_v6.out hb)
    have B3_V6 := Lib.hid (B3_v6.out.up hb)
    have R14_V6 := Lib.hid (Reads.up R14_v6.out hb)
    have R24_V6 := Lib.hid (Reads.up R24_v6.out hb)
    have B4_V6 := Lib.hid (B4_v6.out.up hb)
    have R15_V6 := Lib.hid (Reads.up R15_v6.out hb)
    have R25_V6 := Lib.hid (Reads.up R25_v6.out hb)
    have B5_V6 := Lib.hid (B5_v6.out.up hb)
    have R16_V6 := Lib.hid (Reads.up R1_v6.out hb)
    have R26_V6 := Lib.hid (Reads.up R2_v6.out hb)
    clear S_v6 K_v6 A_v6 P_v6 Q_v6 C_v6 O_v6 Z_v6 R11_v6 R21_v6 B1_v6 R12_v6 R22_v6 B2_v6 R13_v6 R23_v6 B3_v6 R14_v6 R24_v6 B4_v6 R15_v6 R25_v6 B5_v6 R1_v6 R2_v6
    have B6_V6 := Lib.hid hx
    clear hb hx
    generalize v6.alloc (.cells #[.slice X6 X.m.ns.length x6, .slice Y6 X.m.es.length y6] 27) = V6 at *
    generalize v6.heap.size = g6 at *
    have HL6 := HL
    have a0 : V6.cell? ⟨ga, 0, none⟩ = some (.slice A1 g.ns.length k1) := A_V6.out.cells.1
    have a1 : V6.cell? ⟨ga, 1, none⟩ = some (.slice A2 g.es.length k2) := A_V6.out.cells.2
    have p0 : V6.cell? ⟨ga + 1, 0, none⟩ = some (.slice X.An X.g.ns.length X.cn) := cell_of_row _ _ 0 _ _ _ P_V6.out
    have p1 : V6.cell? ⟨ga + 1, 1, none⟩ = some (.slice X.Ae X.g.es.length X.ce) := cell_of_row _ _ 1 _ _ _ P_V6.out
    have p2 : V6.cell? ⟨ga + 1, 2, none⟩ = some (.slice X.Mn X.m.ns.length X.mn) := cell_of_row _ _ 2 _ _ _ P_V6.out
    have p3 : V6.cell? ⟨ga + 1, 3, none⟩ = some (.slice X.Me X.m.es.length X.me) := cell_of_row _ _ 3 _ _ _ P_V6.out
    have q0 : V6.cell? ⟨ga + 1 + 1, 0, none⟩ = some (.slice Y.An Y.g.ns.length Y.cn) := cell_of_row _ _ 0 _ _ _ Q_V6.out
    have q1 : V6.cell? ⟨ga + 1 + 1, 1, none⟩ = some (.slice Y.Ae Y.g.es.length Y.ce) := cell_of_row _ _ 1 _ _ _ Q_V6.out
    have q2 : V6.cell? ⟨ga + 1 + 1, 2, none⟩ = some (.slice Y.Mn Y.m.ns.length Y.mn) := cell_of_row _ _ 2 _ _ _ Q_V6.out
    have q3 : V6.cell? ⟨ga + 1 + 1, 3, none⟩ = some (.slice Y.Me Y.m.es.length Y.me) := cell_of_row _ _ 3 _ _ _ Q_V6.out
    have c0 : V6.cell? ⟨gc, 0, none⟩ = some (.slice Z.An Z.g.ns.length Z.cn) := C_V6.out.cells.1
    have c1 : V6.cell? ⟨gc, 1, none⟩ = some (.slice Z.Ae Z.g.es.length Z.ce) := C_V6.out.cells.2
    have o0 : V6.cell? ⟨go, 0, none⟩ = some (.slice Z.Mn Z.m.ns.length Z.mn) := O_V6.out.cells.1
    have o1 : V6.cell? ⟨go, 1, none⟩ = some (.slice Z.Me Z.m.es.length Z.me) := O_V6.out.cells.2
    have m10 : V6.cell? ⟨g1, 0, none⟩ = some (.slice X1 (compM X.m Y.m).ns.length x1) := B1_V6.out.cells.1
    have m11 : V6.cell? ⟨g1, 1, none⟩ = some (.slice Y1 (compM X.m Y.m).es.length y1) := B1_V6.out.cells.2
    have m20 : V6.cell? ⟨g2, 0, none⟩ = some (.slice X2 (compM Y.m Z.m).ns.length x2) := B2_V6.out.cells.1
    have m21 : V6.cell? ⟨g2, 1, none⟩ = some (.slice Y2 (compM Y.m Z.m).es.length y2) := B2_V6.out.cells.2
    have m30 : V6.cell? ⟨g3, 0, none⟩ = some (.slice X3 (compM (compM X.m Y.m) Z.m).ns.length x3) := B3_V6.out.cells.1
    have m31 : V6.cell? ⟨g3, 1, none⟩ = some (.slice Y3 (compM (compM X.m Y.m) Z.m).es.length y3) := B3_V6.out.cells.2
    have m40 : V6.cell? ⟨g4, 0, none⟩ = some (.slice X4 (compM (compM X.m Y.m) Z.m).ns.length x4) := B4_V6.out.cells.1
    have m41 : V6.cell? ⟨g4, 1, none⟩ = some (.slice Y4 (compM (compM X.m Y.m) Z.m).es.length y4) := B4_V6.out.cells.2
    have m50 : V6.cell? ⟨g5, 0, none⟩ = some (.slice X5 (idM g).ns.length x5) := B5_V6.out.cells.1
    have m51 : V6.cell? ⟨g5, 1, none⟩ = some (.slice Y5 (idM g).es.length y5) := B5_V6.out.cells.2
    have m60 : V6.cell? ⟨g6, 0, none⟩ = some (.slice X6 X.m.ns.length x6) := B6_V6.out.cells.1
    have m61 : V6.cell? ⟨g6, 1, none⟩ = some (.slice Y6 X.m.es.length y6) := B6_V6.out.cells.2
    go_wp2_with fail
    refine (sameR_refl (compM (compM X.m Y.m) Z.m) X3 x3 Y3 y3 X4 x4 Y4 y4 _ HL3.out R13_V6.out R23_V6.out R14_V6.out R24_V6.out).mono ?_
    rintro e w8 ⟨rfl, hb⟩
    have S_w8 := Lib.hid (S_V6.out.up hb)
    have K_w8 := Lib.hid (K_V6.out.up hb)
    have A_w8 := Lib.hid (A_V6.out.up hb)
    have P_w8 := Lib.hid (heap_up hb P_V6.out)
    have Q_w8 := Lib.hid (heap_up hb Q_V6.out)
    have C_w8 := Lib.hid (C_V6.out.up hb)
    have O_w8 := Lib.hid (O_V6.out.up hb)
    have Z_w8 := Lib.hid (Z_V6.out.up hb)
    have R11_w8 := Lib.hid (Reads.up R11_V6.out hb)
    have R21_w8 := Lib.hid (Reads.up R21_V6.out hb)
    have B1_w8 := Lib.hid (B1_V6.out.up hb)
    have R12_w8 := Lib.hid (Reads.up R12_V6.out hb)
    have R22_w8 := Lib.hid (Reads.up R22_V6.out hb)
    have B2_w8 := Lib.hid (B2_V6.out.up hb)
    have R13_w8 := Lib.hid (Reads.up R13_V6.out hb)
    have R23_w8 := Lib.hid (Reads.up R23_V6.out hb)
    have B3_w8 := Lib.hid (B3_V6.out.up hb)
    have R14_w8 := Lib.hid (Reads.up R14_V6.out hb)
    have R24_w8 := Lib.hid (Reads.up R24_V6.out hb)
    have B4_w8 := Lib.hid (B4_V6.out.up hb)
    have R15_w8 := Lib.hid (Reads.up R15_V6.out hb)
    have R25_w8 := Lib.hid (Reads.up R25_V6.out hb)
    have B5_w8 := Lib.hid (B5_V6.out.up hb)
    have R16_w8 := Lib.hid (Reads.up R16_V6.out hb)
    have R26_w8 := Lib.hid (Reads.up R26_V6.out hb)
    have B6_w8 := Lib.hid (B6_V6.out.up hb)
    clear S_V6 K_V6 A_V6 P_V6 Q_V6 C_V6 O_V6 Z_V6 R11_V6 R21_V6 B1_V6 R12_V6 R22_V6 B2_V6 R13_V6 R23_V6 B3_V6 R14_V6 R24_V6 B4_V6 R15_V6 R25_V6 B5_V6 R16_V6 R26_V6 B6_V6
    clear hb a0 a1 p0 p1 p2 p3 q0 q1 q2 q3 c0 c1 o0 o1 m10 m11 m20 m21 m30 m31 m40 m41 m50 m51 m60 m61
    have a0 : w8.cell? ⟨ga, 0, none⟩ = some (.slice A1 g.ns.length k1) := A_w8.out.cells.1
    have a1 : w8.cell? ⟨ga, 1, none⟩ = some (.slice A2 g.es.length k2) := A_w8.out.cells.2
    have p0 : w8.cell? ⟨ga + 1, 0, none⟩ = some (.slice X.An X.g.ns.length X.cn) := cell_of_row _ _ 0 _ _ _ P_w8.out
    have p1 : w8.cell? ⟨ga + 1, 1, none⟩ = some (.slice X.Ae X.g.es.length X.ce) := cell_of_row _ _ 1 _ _ _ P_w8.out
    have p2 : w8.cell? ⟨ga + 1, 2, none⟩ = some (.slice X.Mn X.m.ns.length X.mn) := cell_of_row _ _ 2 _ _ _ P_w8.out
    have p3 : w8.cell? ⟨ga + 1, 3, none⟩ = some (.slice X.Me X.m.es.length X.me) := cell_of_row _ _ 3 _ _ _ P_w8.out
    have q0 : w8.cell? ⟨ga + 1 + 1, 0, none⟩ = some (.slice Y.An Y.g.ns.length Y.cn) := cell_of_row _ _ 0 _ _ _ Q_w8.out
    have q1 : w8.cell? ⟨ga + 1 + 1, 1, none⟩ = some (.slice Y.Ae Y.g.es.length Y.ce) := cell_of_row _ _ 1 _ _ _ Q_w8.out
    have q2 : w8.cell? ⟨ga + 1 + 1, 2, none⟩ = some (.slice Y.Mn Y.m.ns.length Y.mn) := cell_of_row _ _ 2 _ _ _ Q_w8.out
    have q3 : w8.cell? ⟨ga + 1 + 1, 3, none⟩ = some (.slice Y.Me Y.m.es.length Y.me) := cell_of_row _ _ 3 _ _ _ Q_w8.out
    have c0 : w8.cell? ⟨gc, 0, none⟩ = some (.slice Z.An Z.g.ns.length Z.cn) := C_w8.out.cells.1
    have c1 : w8.cell? ⟨gc, 1, none⟩ = some (.slice Z.Ae Z.g.es.length Z.ce) := C_w8.out.cells.2
    have o0 : w8.cell? ⟨go, 0, none⟩ = some (.slice Z.Mn Z.m.ns.length Z.mn) := O_w8.out.cells.1
    have o1 : w8.cell? ⟨go, 1, none⟩ = some (.slice Z.Me Z.m.es.length Z.me) := O_w8.out.cells.2
    have m10 : w8.cell? ⟨g1, 0, none⟩ = some (.slice X1 (compM X.m Y.m).ns.length x1) := B1_w8.out.cells.1
    have m11 : w8.cell? ⟨g1, 1, none⟩ = some (.slice Y1 (compM X.m Y.m).es.length y1) := B1_w8.out.cells.2
    have m20 : w8.cell? ⟨g2, 0, none⟩ = some (.slice X2 (compM Y.m Z.m).ns.length x2) := B2_w8.out.cells.1
    have m21 : w8.cell? ⟨g2, 1, none⟩ = some (.slice Y2 (compM Y.m Z.m).es.length y2) := B2_w8.out.cells.2
    have m30 : w8.cell? ⟨g3, 0, none⟩ = some (.slice X3 (compM (compM X.m Y.m) Z.m).ns.length x3) := B3_w8.out.cells.1
    have m31 : w8.cell? ⟨g3, 1, none⟩ = some (.slice Y3 (compM (compM X.m Y.m) Z.m).es.length y3) := B3_w8.out.cells.2
    have m40 : w8.cell? ⟨g4, 0, none⟩ = some (.slice X4 (compM (compM X.m Y.m) Z.m).ns.length x4) := B4_w8.out.cells.1
    have m41 : w8.cell? ⟨g4, 1, none⟩ = some (.slice Y4 (compM (compM X.m Y.m) Z.m).es.length y4) := B4_w8.out.cells.2
    have m50 : w8.cell? ⟨g5, 0, none⟩ = some (.slice X5 (idM g).ns.length x5) := B5_w8.out.cells.1
    have m51 : w8.cell? ⟨g5, 1, none⟩ = some (.slice Y5 (idM g).es.length y5) := B5_w8.out.cells.2
    have m60 : w8.cell? ⟨g6, 0, none⟩ = some (.slice X6 X.m.ns.length x6) := B6_w8.out.cells.1
    have m61 : w8.cell? ⟨g6, 1, none⟩ = some (.slice Y6 X.m.es.length y6) := B6_w8.out.cells.2
    go_wp2_with fail
    refine (sameR_refl X.m X6 x6 Y6 y6 X.Mn X.mn X.Me X.me _ HXL2.out R16_w8.out R26_w8.out K_w8.out.x.m1 K_w8.out.x.m2).mono ?_
    rintro e w9 ⟨rfl, hb⟩
    go_wp2_with fail
    go_ret
    exact ⟨rfl, (S_w8.out.up hb).1⟩

end Go.Proofs.YtaeelanbkdkppaaDoor

/-
  The statement MorphismAssociative: the law answers true for every input, and its arguments read as they did; its card.
-/
namespace Go.Proofs.YtaeelanbkdkppaaDoor.morphismAssociative
open Go.ChangeShapes Go.WideShapes Go.ChangeAt Go.RowKit Go.Deep

set_option maxRecDepth 100000 in
theorem lifted (os : Os) (started : os.Started) (H : Type) (enc : TypeId × Value → H) :
    ReturnsInHanded {} Tryd.checked os 8 .any (fun w args => (Rows.morphismAssociativeSpec.pre enc Tryd.prog Tryd.f8 Rows.morphismAssociativeRow.domain false w args ∧ laidMetH Tryd.prog laidL w) ∧ sizedMet enc Tryd.prog Tryd.f8 (OpenSpec.ofChange Rows.morphismAssociativeSpec) false w args)
      (Rows.morphismAssociativeSpec.post enc Tryd.prog Tryd.f8 false true false false) := by
  refine returnsInHanded_of_change_and (C := Tryd.checked) (X := fun w _ => laidMetH Tryd.prog laidL w) (fun _ _ _ hh h => h.of_heap hh) ownNone started (by kernel_rfl) Tryd.func8
    (ChangeSpec.witness_shaped (enc := enc) (C := Tryd.checked) (os := os) (X := fun w _ => laidMetH Tryd.prog laidL w) false (World.laidAll Tryd.prog os laidL) #[.agg #[.slice none 0 0, .slice none 0 0], .slice none 0 0, .slice none 0 0] 8 (World.laidAll_os _ _ _)
      (shaped os _) (by kernel_rfl) (by kernel_rfl) (by kernel_rfl) (met os _)) ?_
  intro W base args ds gs before hval0 hW hcnd hsz0 hL _
  have hval : ∀ (j : Nat) t v, Tryd.f8.params[j]? = some t → args[j]? = some v → Value.okWide Tryd.prog W .any base t v := hval0
  have hsz : (DataW.weightsEach Tryd.prog (Tryd.f8.params.toList ++ Rows.morphismAssociativeSpec.plain.varTypes Tryd.prog) (ds ++ gs)).all (· ≤ reachBytes) = true := hsz0
  obtain ⟨hTab, h00⟩ := tab_of_laid hL
  have hW' := hW
  obtain ⟨p, q, hA0, hV, rfl, hfz, hnd⟩ := hW
  have hA : DataW.TrodAll enc Tryd.prog W 0 (fun _ => true) true Tryd.f8.params.toList args.toList ds p := hA0
  rw [Tryd.params8] at hA hval hsz
  obtain ⟨v0, v1, v2, d0, d1, d2, p0, p1, p2, rfl, rfl, rfl, h0, h1, h2⟩ := trodAll_three hA
  obtain ⟨rfl, rfl⟩ := trodVars_none hV
  clear hA0 hval0 hsz0 hL hcnd
  simp only [List.append_nil] at hW'
  have hlt : ∀ x ∈ p0 ++ p1 ++ p2, x.block < W.heap.size := fun x hx => by simpa using hW'.lt x (by simpa using hx)
  have k0 := h0
  obtain ⟨cs0, rfl, _⟩ := okWide_struct Tryd.underlying56 (hval 0 56 v0 rfl rfl)
  obtain ⟨f0, g0⟩ := h0
  obtain ⟨t0, An0, cn0, Ae0, ce0, e0, hT0⟩ := open_Dr g0
  obtain rfl := agg_of (e0)
  have k1 := h1
  obtain ⟨a1, len1, cap1, rfl⟩ := okWide_slice Tryd.underlying53 (hval 1 53 v1 rfl rfl)
  obtain ⟨f1, g1⟩ := h1
  obtain ⟨A1, xs1, c1, e1, hT1, hl1, hm1⟩ := open_b g1
  simp [Value.cells] at e1
  obtain ⟨rfl, rfl, rfl⟩ := e1
  have k2 := h2
  obtain ⟨a2, len2, cap2, rfl⟩ := okWide_slice Tryd.underlying53 (hval 2 53 v2 rfl rfl)
  obtain ⟨f2, g2⟩ := h2
  obtain ⟨A2, xs2, c2, e2, hT2, hl2, hm2⟩ := open_b g2
  simp [Value.cells] at e2
  obtain ⟨rfl, rfl, rfl⟩ := e2
  refine (lawAssoc t0 An0 cn0 Ae0 ce0 xs1 a1 cap1 xs2 a2 cap2 W h00 hTab hT0 hT1 (Nat.le_trans hl1 hm1) hT2 (Nat.le_trans hl2 hm2)).mono fun e W' ⟨he, hg⟩ => ?_
  subst he
  exact ⟨_, rfl, _, _, _, [], p0 ++ p1 ++ p2, [], hW', trodAll_cons_mk (shut_bool Tryd.underlying4 _) trodAll_mk0, (by rw [List.append_assoc p0 p1 p2]; exact trodAll_mk3 (Below.trod laidOut (by kernel_rfl) (of_decide_eq_true (by kernel_rfl)) k0 hg (fun x hx => hlt x (List.mem_append_left _ (List.mem_append_left _ hx)))) (Below.trod laidOut (by kernel_rfl) (of_decide_eq_true (by kernel_rfl)) k1 hg (fun x hx => hlt x (List.mem_append_left _ (List.mem_append_right _ hx)))) (Below.trod laidOut (by kernel_rfl) (of_decide_eq_true (by kernel_rfl)) k2 hg (fun x hx => hlt x (List.mem_append_right _ hx)))), rfl, hg.frame _, fun h => by cases h⟩

theorem f_holds : Rows.MorphismAssociativeSaid :=
  OpenClaim.holds_of_wide 8 Tryd.f8 rfl rfl rfl rfl rfl rfl rfl ⟨rfl, rfl, rfl, rfl, rfl⟩ rfl rfl rfl rfl rfl (by kernel_rfl) Tryd.func8 (by kernel_rfl)
    (of_decide_eq_true (by kernel_rfl)) (by unfold Func.isWrapper; first | (rw [if_pos (by decide +kernel)]; kernel_rfl) | (rw [if_neg (by decide +kernel)]; exact ⟨rfl, rfl⟩))
    (fun os started H enc _ => lifted os started H enc)

theorem proved : Rows.MorphismAssociativeCardSaid :=
  Claim7.holds_tied_plain_at .later [] [.data] true (true, "be0e74ecbec61e216f1dec99b2fe76d9649797ab71005ecd4978206190a01235") false
    f_holds (fun _ h => by cases h) (by kernel_rfl) (fun _ h => by cases h) morphismAssociative_row_tie rfl ⟨rfl, rfl⟩ (by kernel_rfl) rfl
    (fun f fn hf hfn => by
      obtain rfl : f = 8 := Option.some.inj ((show Tryd.prog.funcNamed "scarfjoint/scarfjointlaw06.MorphismAssociative" = some 8 by kernel_rfl).symm.trans hf) |>.symm
      obtain rfl : fn = Tryd.f8 := (Option.some.inj (Tryd.func8.symm.trans hfn)).symm
      exact ⟨by kernel_rfl, fun j t ht => by
        rw [Tryd.params8] at ht
        have hm : t ∈ [56, 53, 53] := List.mem_of_getElem? (by simpa using ht)
        have hs : ∀ t ∈ [56, 53, 53], Tryd.prog.wantsStandIn t = false := by
          intro t ht
          simp only [List.mem_cons, List.not_mem_nil, or_false] at ht
          rcases ht with rfl | rfl | rfl <;> kernel_rfl
        exact hs t hm⟩)
    (by kernel_rfl)

end Go.Proofs.YtaeelanbkdkppaaDoor.morphismAssociative

