import Derived.Test.YtaeelanbkdkppaaDoorV07
import Derived.Test.YtaeelanbkdkppaaDoorV08
import Derived.Lib.OwnBridge
import Derived.Test.YtaeelanbkdkppaaDoorV06
import Derived.Test.YtaeelanbkdkppaaDoorV05
import Derived.Deep.RegionLaw
import Derived.Deep.DeepCutAuto
import Derived.Deep.CutBlock
import Derived.Deep.RegionWith
import Derived.Test.YtaeelanbkdkppaaDoorV01
/-
  countImages: the number of different images.
-/
namespace Go.Proofs.YtaeelanbkdkppaaDoor
open Go.RowKit Go.Shelf

attribute [local go_sem] Oper.semAt_some

/-- what slices.Values hands over -/
def RVal (x : Int) (G : Blks) (_ : World) (vs : Array Value) : Prop := (∀ b, ¬ G b) ∧ vs = #[.int .i64 x]
theorem take_next {xs : List Int} {k : Nat} (h : k < xs.length) : xs.take k ++ [xs.getD k 0] = xs.take (k + 1) := by
  rw [List.take_add_one, List.getElem?_eq_getElem h, List.getD_eq_getElem?_getD, List.getElem?_eq_getElem h]; rfl

set_option maxRecDepth 100000 in
set_option maxHeartbeats 2000000 in
theorem values_visits (xs : List Int) (hl : xs.length ≤ 1000) (vb : Nat) (A : Option Addr) (c : Nat) (w : World) (hb : Boxed w vb 22 (.slice A xs.length c)) (hA : Ints w w.heap.size A xs) :
    Visits Tryd.prog 76 #[] #[.pointer (some ⟨vb, 0, none⟩)] xs RVal (fun b => b = vb ∨ ∃ o, xs ≠ [] ∧ A = some ⟨b, o, none⟩) w := by
  intro l J Jx H W hW hJ hJx hO hY h0
  have HY := Lib.hid hY
  have HA := Lib.hid (Reads.up hA hW)
  have HO := Lib.hid hO
  have HLB : Hid (∀ b o, xs ≠ [] → A = some ⟨b, o, none⟩ → b < W.heap.size) := Lib.hid fun b o hn e => by
    rcases Reads.up hA hW with h | ⟨b2, o2, e2, hb2, _⟩
    · exact absurd h hn
    · rw [e] at e2; injection e2 with e2; injection e2 with e2; omega
  have c1 := (show Boxed W vb 22 (.slice A xs.length c) from heap_up hW hb).cell
  have hl0 : (xs.length : Int) ≤ 1000 := by omega
  clear hY hA hO hb hW
  refine (callsIn_wide (n := 3)).1 ?_
  refine callsIn_of_wp Tryd.func76 rfl trivial ?_ rfl
  simp only [Tryd.ntmps76, List.size_toArray, List.length_cons, List.length_nil, Nat.reduceAdd, Nat.reduceSub, Array.replicate_succ, Array.replicate_zero, List.push_toArray, List.append_toArray, List.nil_append, List.cons_append]
  gi_wp2
  clear c1
  gi_loopw [7] (fun v wr => ∃ (k : Nat) (H' : Blks), k ≤ xs.length ∧ v = .int .i64 (k : Int) ∧ J (xs.take k) H' wr ∧ Keeps H W wr ∧ ∀ b, H' b → H b ∨ W.heap.size ≤ b)
    (fun v _ => xs.length - (intOf v).toNat)
  case atStart => exact ⟨0, H, Nat.zero_le _, rfl, h0, Keeps.refl _ _, fun b h => .inl h⟩
  case round =>
    obtain ⟨k, H', hk, rfl, hj, hkp, hg⟩ := hrel
    by_cases hlt : k < xs.length
    · obtain ⟨b, off, hAe, hbl, hc⟩ := Ints.cells HA.out hlt
      have ck : wr.cell? ⟨b, off + k, none⟩ = some (.int .i64 (xs.getD k 0)) := (cell_heap (p := ⟨b, off + k, none⟩) (hkp.block b hbl (HO.out b (.inr ⟨off, (fun e => by rw [e] at hlt; simp at hlt), hAe⟩)))).trans (hc k hlt)
      obtain ⟨fn, tmps, assign, body, hy, hR⟩ := YieldAt.anyDepth rfl 2 (HY.out (xs.take k) (xs.getD k 0) H' wr (fun _ => False) #[.int .i64 (xs.getD k 0)] hj (by rw [take_next hlt]; exact List.take_prefix _ _) ⟨fun _ h => h, rfl⟩ (fun _ h => h.elim))
      rw [take_next hlt] at hR
      have HK := Lib.hid hkp
      have HG := Lib.hid hg
      have HLT := Lib.hid hlt
      have k0 : (0 : Int) ≤ (k : Int) := by omega
      have k1 : (k : Int) < (xs.length : Int) := by omega
      have k2 : ((k : Int)).toNat = k := by omega
      have HM : Hid (xs.length - ((k : Int) + 1).toNat < xs.length - ((k : Int)).toNat) := Lib.hid (by omega)
      clear hkp hg hj hc hbl
      subst hAe
      generalize xs.getD k 0 = x at *
      gi_wp2
      refine hR.mono ?_
      rintro e W3 ⟨hk3, H3, hg3, (⟨rfl, hj3⟩ | ⟨rfl, hj3⟩)⟩
      · obtain ⟨hk4, hg4⟩ := keeps_turn HK.out HG.out (G := fun _ => False) (fun _ h => h.elim) hk3 hg3
        clear hk3 hg3
        gi_wp2
        go_roundw
        case rel => exact ⟨k + 1, H3, HLT.out, by go_num, hj3, hk4, hg4⟩
        case measure => exact HM.out
      · obtain ⟨hk4, hg4⟩ := keeps_turn HK.out HG.out (G := fun _ => False) (fun _ h => h.elim) hk3 hg3
        clear hk3 hg3
        gi_wp2
        refine bodyPost_ret (results_none rfl _ _ _) rfl ?_
        exact ⟨⟨_, rfl⟩, hk4, H3, hg4, .inr hj3⟩
    · obtain rfl : k = xs.length := by omega
      rw [List.take_length] at hj
      gi_wp2
      go_end0
      exact ⟨⟨_, rfl⟩, hkp, H', hg, .inl hj⟩

theorem values_any (A : Option Addr) (n c : Nat) (w : World) : Calls Tryd.prog 64 #[.slice A n c] w fun e w' => e = .returned (.func (.func 76) #[] #[.pointer (some ⟨w.heap.size, 0, none⟩)]) ∧ w' = w.alloc (.cells #[.slice A n c] 22) := by
  go_enter Tryd.func64, Tryd.ntmps64
  go_wp2
  go_ret
  exact ⟨rfl, rfl⟩

/-- what the rounds of AppendSeq hold -/
def SeqJ (base sb : Nat) (pre : List Int) (H : Blks) (V : World) : Prop :=
  ∃ v, Boxed V sb 22 v ∧ OwnI V base v pre ∧ H sb ∧ (∀ b, v.ownBlock = some b → H b) ∧ (∀ b, H b → b < V.heap.size) ∧ (∀ b, H b → base ≤ b) ∧ v.ownBlock ≠ some sb
theorem SeqJ.foot {Rd : Blks} {base sb : Nat} {pre : List Int} : Foot Rd (SeqJ base sb pre) := by
  rintro H V ⟨v, h1, h2, h3, h4, h5, h6, h7⟩
  exact ⟨h5, fun V' hs hb => ⟨v, (hb _ (.inl h3)).trans h1, OwnE.same h2 fun g hg => hb g (.inl (h4 g hg)), h3, h4, fun b h => Nat.lt_of_lt_of_le (h5 b h) hs, h6, h7⟩⟩
theorem seq_next {base sb : Nat} {pre : List Int} {H : Blks} {U Wa w' : World} {v v' : Value} {x : Int} (h1 : Boxed U sb 22 v) (h3 : H sb) (h4 : ∀ b, v.ownBlock = some b → H b) (h5 : ∀ b, H b → b < U.heap.size) (h6 : ∀ b, H b → base ≤ b) (h7 : v.ownBlock ≠ some sb)
    (hW : Below U.heap.size U Wa) (ho : OwnI w' base v' (pre ++ [x])) (hgr : Wa.grownBy w' v.ownBlock) (hv' : v'.ownBlock = v.ownBlock ∨ ∃ h, v'.ownBlock = some h ∧ Wa.heap.size ≤ h) :
    Keeps (fun b => H b ∨ False) U (w'.setCell ⟨sb, 0, none⟩ v') ∧ ∃ H', (∀ b, H' b → (H b ∨ False) ∨ U.heap.size ≤ b) ∧ SeqJ base sb (pre ++ [x]) H' (w'.setCell ⟨sb, 0, none⟩ v') := by
  have s1 := hW.size
  have s2 := hgr.size
  have sz : (w'.setCell ⟨sb, 0, none⟩ v').heap.size = w'.heap.size := by simp [World.setCell]
  have hsl := h5 _ h3
  have hbx : w'.heap[sb]? = some (.cells #[v] 22 (0, 0)) := (hgr.block sb (by omega) (fun e => h7 e.symm)).trans ((hW.block sb hsl).trans h1)
  have h7' : v'.ownBlock ≠ some sb := by
    rcases hv' with e | ⟨h, e, hl⟩
    · rw [e]; exact h7
    · rw [e]; intro e2; injection e2 with e2; omega
  have hlt := OwnE.lt ho
  refine ⟨⟨hgr.os.trans hW.os, hgr.tape.trans hW.tape, hgr.output.trans hW.output, by omega, fun b hb hn => ?_⟩, fun b => H b ∨ v'.ownBlock = some b, fun b hb => ?_, v', heap_setCell_same w' sb 0 _ _ v' hbx, OwnE.same ho fun g hg => heap_setCell_other _ _ _ _ (fun e => h7' (by rw [hg]; exact congrArg some e)), .inl h3, fun b hb => .inr hb, fun b hb => ?_, fun b hb => ?_, h7'⟩
  · exact (heap_setCell_other _ _ _ _ (fun e => hn (.inl (by rw [show b = sb from e]; exact h3)))).trans ((hgr.block b (by omega) (fun e => hn (.inl (h4 b e.symm)))).trans (hW.block b hb))
  · rcases hb with hb | hb
    · exact .inl (.inl hb)
    · rcases hv' with e | ⟨h, e, hl⟩
      · exact .inl (.inl (h4 b (e ▸ hb)))
      · rw [e] at hb; injection hb with hb; exact .inr (by omega)
  · rcases hb with hb | hb
    · have := h5 b hb; omega
    · have := (hlt b hb).2; omega
  · rcases hb with hb | hb
    · exact h6 b hb
    · exact (hlt b hb).1

set_option maxRecDepth 100000 in
set_option maxHeartbeats 2000000 in
theorem appendSeq_any (xs : List Int) (hl : xs.length ≤ 1000) (gf : Nat) (lb : Array Value) (O : Blks) (w : World) (eg : ∀ args u, (callFunc gf args).run Tryd.prog u = .ok (.enter gf args) u) (hO : ∀ b, O b → b < w.heap.size) (hv : ∀ u, Below w.heap.size w u → Visits Tryd.prog gf #[] lb xs RVal O u) :
    Calls Tryd.prog 88 #[.slice none 0 0, .func (.func gf) #[] lb] w fun e w' => ∃ v, e = .returned v ∧ OwnI w' w.heap.size v xs ∧ Below w.heap.size w w' := by
  have HV := Lib.hid hv
  have HO := Lib.hid hO
  have HEG := Lib.hid eg
  clear hv hO eg
  refine (callsIn_wide (n := 6)).1 ?_
  refine callsIn_of_wp_marks Tryd.func88 rfl trivial ?_ rfl
  simp only [Tryd.ntmps88, List.size_toArray, List.length_cons, List.length_nil, Nat.reduceAdd, Nat.reduceSub, Array.replicate_succ, Array.replicate_zero, List.push_toArray, List.append_toArray, List.nil_append, List.cons_append]
  gi_upto_region 1 with fail
  generalize hW0 : w.alloc _ = W0
  have hB0 : Below w.heap.size w W0 := by rw [← hW0]; exact (Below.refl _ _).alloc (Nat.le_refl _) _
  have b0 : Boxed W0 w.heap.size 22 (.slice none 0 0) := by rw [← hW0]; exact Boxed.new w _ _
  have hs0 : W0.heap.size = w.heap.size + 1 := by rw [← hW0]; simp
  clear hW0
  have HB0 := Lib.hid hB0
  have HS0 := Lib.hid hs0
  obtain ⟨sb, hsb⟩ : ∃ sb, sb = w.heap.size := ⟨_, rfl⟩
  rw [← hsb] at b0
  have hJ0 : SeqJ w.heap.size sb [] (fun k => k = sb) W0 := ⟨_, b0, OwnE.nil _ _ _, rfl, fun k h => (by cases h), fun k h => by subst h; omega, fun k h => by subst h; omega, by simp [Value.ownBlock]⟩
  have HSB := Lib.hid hsb
  have HJ0 := Lib.hid hJ0
  clear hJ0 b0 hB0 hs0 hsb
  gi_wp2
  rw [← HSB.out]
  have hsb := HSB.out
  refine wpIn_visits (gf := gf) (ba := #[]) (lb := lb) rfl HEG.out (HV.out W0 HB0.out) (fun x G V vs h => by rw [h.2]; rfl)
    (SeqJ w.heap.size sb) (fun _ _ _ => False) (fun _ => SeqJ.foot) (fun _ => foot_false _) (fun k => k = sb) HJ0.out ?hO ?round ?done ?stop
  case hO => exact fun k h => ⟨fun h2 => by have := HO.out k h; omega, by have := HO.out k h; have := HS0.out; omega⟩
  case round =>
    rintro l pre x H G vs V K hl2 ⟨r0, hr⟩ hHl hGl ⟨v, h1, h2, h3, h4, h5, h6, h7⟩ hx ⟨hG0, rfl⟩ hGa hK
    clear hsb
    dsimp only
    gi_wp2
    refine hK _ _ (Keeps.refl _ _) fun r => ?_
    have hu : ∀ k, k ≠ l → (V.putObj l (.loop r)).heap[k]? = V.heap[k]? := fun k h => World.putObj_heap_other h
    have hsz : V.heap.size = (V.putObj l (.loop r)).heap.size := by simp
    have nl : ∀ k, H k → k ≠ l := fun k h e => hHl (e ▸ h)
    have g1 : Boxed (V.putObj l (.loop r)) sb 22 v := (hu sb (nl _ h3)).trans h1
    have g2 : OwnI (V.putObj l (.loop r)) w.heap.size v pre := OwnE.same h2 fun g hg => hu g (nl _ (h4 g hg))
    rw [hsz] at h5 ⊢
    generalize V.putObj l (.loop r) = U at *
    obtain ⟨rA, rc, hve⟩ := OwnE.slice g2
    have HH := Lib.hid (show Boxed U sb 22 v ∧ H sb ∧ (∀ b, v.ownBlock = some b → H b) ∧ (∀ b, H b → b < U.heap.size) ∧ (∀ b, H b → w.heap.size ≤ b) ∧ v.ownBlock ≠ some sb from ⟨g1, h3, h4, h5, h6, h7⟩)
    have hxl : pre.length < 1000 := by have := hx.length_le; simp at this; omega
    have HOA := Lib.hid (OwnE.alloc g2 (.cells #[.int .i64 x] 3))
    have HCA : Hid ((U.alloc (.cells #[.int .i64 x] 3)).cell? ⟨U.heap.size, 0, none⟩ = some (.int .i64 x)) := Lib.hid (cell_new _ _ _)
    have HBA : Hid (Below U.heap.size U (U.alloc (.cells #[.int .i64 x] 3))) := Lib.hid ((Below.refl _ _).alloc (Nat.le_refl _) _)
    have HWU : Hid (w.heap.size ≤ U.heap.size) := Lib.hid (by have := h5 _ h3; have := h6 _ h3; omega)
    have HXL := Lib.hid hxl
    subst hve
    have x1 := g1.cell
    have x1f := g1.frozen
    have HG0 : Hid (G = fun _ => False) := Lib.hid (by funext k; exact propext ⟨fun h => hG0 k h, fun h => h.elim⟩)
    clear h1 h2 h3 h4 h5 h6 h7 g1 g2 hu nl hsz hx hr hHl hGl hGa hK hl2 hxl hG0
    gi_wp2_with (first | (with_reducible refine wpListIn_append_both rfl _ _ rfl w.heap.size (.slice rA pre.length rc) pre rfl HOA.out U.heap.size 1 x rfl HCA.out (by have := HXL.out; omega) (Nat.le_trans HWU.out HBA.out.size) ?_) | (intro v' w2 r1 r2 r3 r4; have q7 : Boxed w2 sb 22 (.slice rA pre.length rc) := (r3.block sb (Nat.lt_of_lt_of_le (HH.out.2.2.2.1 _ HH.out.2.1) HBA.out.size) (fun e => HH.out.2.2.2.2.2 e.symm)).trans ((HBA.out.block sb (HH.out.2.2.2.1 _ HH.out.2.1)).trans HH.out.1); have q7c := q7.cell; have q7f := q7.frozen; have HEND := Lib.hid (seq_next HH.out.1 HH.out.2.1 HH.out.2.2.1 HH.out.2.2.2.1 HH.out.2.2.2.2.1 HH.out.2.2.2.2.2 HBA.out r1 r3 (r4.imp And.left (fun ⟨h, e1, e2⟩ => ⟨h, e1, by rw [size_alloc]; exact e2⟩))); obtain ⟨a6, c6, hv6⟩ := OwnE.slice r1; subst hv6; clear r1 r2 r3 r4 q7))
    have hE := HEND.out
    rw [show (pre ++ [x]).length = pre.length + 1 by simp] at hE
    rw [HG0.out]
    exact hE
  case done =>
    rintro D H Wf hD hHD hg ⟨v, h1, h2, h3, h4, h5, h6, h7⟩ hk hKd
    have x1 := h1.cell
    have nD : ∀ k, H k → k ≠ D := fun k h e => hHD (by rw [← e]; exact h)
    have HKD := Lib.hid hKd
    have HB : Hid (Below w.heap.size w (Wf.putObj D (.deferred none))) := by
      have h1 : Below w.heap.size w Wf := HB0.out.trans (hk.below HB0.out.size fun i hi h => by omega)
      exact Lib.hid (h1.trans ⟨rfl, rfl, rfl, by simp, fun k hk => World.putObj_heap_other (by have := HB0.out.size; omega)⟩)
    have HOW : Hid (OwnI (Wf.putObj D (.deferred none)) w.heap.size v xs) := Lib.hid (OwnE.same h2 fun g hg => World.putObj_heap_other (nD _ (h4 g hg)))
    clear h1 h2 h3 h4 h5 h6 h7 hk hKd hg hHD nD hsb
    obtain ⟨rA, rc, hve⟩ := OwnE.slice HOW.out
    subst hve
    gi_wp2
    refine ⟨by simp, .inl ⟨_, _, rfl, run_takeDeferred HKD.out, ?_⟩⟩
    exact ⟨_, by simp [results, Tryd.results88, go_sem], _, rfl, HOW.out, HB.out⟩
  case stop => exact fun _ _ _ _ _ _ _ h => h.elim

theorem collect_any (xs : List Int) (hl : xs.length ≤ 1000) (gf : Nat) (lb : Array Value) (O : Blks) (w : World) (eg : ∀ args u, (callFunc gf args).run Tryd.prog u = .ok (.enter gf args) u) (hO : ∀ b, O b → b < w.heap.size) (hv : ∀ u, Below w.heap.size w u → Visits Tryd.prog gf #[] lb xs RVal O u) :
    Calls Tryd.prog 74 #[.func (.func gf) #[] lb] w fun e w' => ∃ v, e = .returned v ∧ OwnI w' w.heap.size v xs ∧ Below w.heap.size w w' := by
  have HA := Lib.hid (appendSeq_any xs hl gf lb O w eg hO hv)
  clear hv eg hO
  go_enter Tryd.func74, Tryd.ntmps74
  go_wp2_with (go_at_call 88; refine HA.out.mono ?_; rintro e w1 ⟨v, rfl, ho, hb⟩; obtain ⟨ao, c, rfl⟩ := OwnE.slice ho)
  go_ret
  exact ⟨_, rfl, ho, hb⟩

theorem sorted_any (xs : List Int) (hl : xs.length ≤ 1000) (gf : Nat) (lb : Array Value) (O : Blks) (w : World) (eg : ∀ args u, (callFunc gf args).run Tryd.prog u = .ok (.enter gf args) u) (hO : ∀ b, O b → b < w.heap.size) (hv : ∀ u, Below w.heap.size w u → Visits Tryd.prog gf #[] lb xs RVal O u) :
    Calls Tryd.prog 63 #[.func (.func gf) #[] lb] w fun e w' => ∃ v, e = .returned v ∧ OwnI w' w.heap.size v (srt xs) ∧ Below w.heap.size w w' := by
  have HA := Lib.hid (collect_any xs hl gf lb O w eg hO hv)
  clear hv eg hO
  go_enter Tryd.func63, Tryd.ntmps63
  go_wp2_with (go_at_call 74; refine HA.out.mono ?_; rintro e w1 ⟨v, rfl, ho, hb⟩; obtain ⟨ao, c, rfl⟩ := OwnE.slice ho)
  have HB := Lib.hid hb
  have HS := Lib.hid (sort_any _ _ xs w1 ho (by omega))
  have HO := Lib.hid ho
  clear ho hb
  go_wp2_with (go_at_call 75; refine HS.out.mono ?_; rintro e w2 ⟨rfl, h2, h3⟩)
  go_ret
  exact ⟨_, rfl, h2, HB.out.grown h3 HB.out.size (fun k hk => (OwnE.lt HO.out k hk).1)⟩

theorem compact_any (base : Nat) (v : Value) (zs : List Int) (w : World) (h : OwnI w base v zs) (hl : zs.length ≤ 1000) :
    Calls Tryd.prog 62 #[v] w fun e w' => (∃ A c, e = .returned (.slice A (Lib.compact zs).length c)) ∧ Below base w w' := by
  have hc : cellsE EInt zs = zs.map (Value.int .i64) := cellsE_int zs
  have h0 := h
  rcases h0.2 with ⟨e, hn⟩ | ⟨g, cap, cur, e, hbg, hg, h1, h2, h3, h4⟩
  · have hx : zs = [] := List.eq_nil_of_length_eq_zero hn
    subst hx e
    refine (Tryd.slices_Compact_int_empty none 0 w).mono ?_
    rintro e w' ⟨rfl, rfl⟩
    exact ⟨⟨_, _, rfl⟩, Below.refl _ _⟩
  · subst e
    have hH := holds_of_blockI (ss := zs) hg (by rw [← hc, ← h4, show EInt.size = 1 from rfl, Nat.mul_one])
    refine (Tryd.slices_Compact_int g 0 cap zs w hH (by omega) h1).mono ?_
    rintro e w' ⟨rfl, q, rfl⟩
    exact ⟨⟨_, _, rfl⟩, Lib.below_putRow (Below.refl _ _) hbg⟩

/-- the number of different elements -/
def cntS (xs : List Int) : Nat := (Lib.compact (srt xs)).length
set_option maxHeartbeats 1000000 in
theorem countImages_any (xs : List Int) (A : Option Addr) (c : Nat) (w : World) (hl : xs.length ≤ 1000) (hA : Ints w w.heap.size A xs) :
    Calls Tryd.prog 42 #[.slice A xs.length c] w fun e w' => e = .returned (.int .i64 (cntS xs : Int)) ∧ Below w.heap.size w w' := by
  have hb0 : Below w.heap.size w (w.alloc (.cells #[.slice A xs.length c] 22)) := (Below.refl _ _).alloc (Nat.le_refl _) _
  have HB0 := Lib.hid hb0
  have HVA := Lib.hid (values_any A xs.length c w)
  have HS := Lib.hid (sorted_any xs hl 76 #[.pointer (some ⟨w.heap.size, 0, none⟩)] (fun b => b = w.heap.size ∨ ∃ o, xs ≠ [] ∧ A = some ⟨b, o, none⟩) (w.alloc (.cells #[.slice A xs.length c] 22)) (enters_of Tryd.func76 (by kernel_rfl) rfl) (fun b h => by
    rcases h with h | ⟨o, hn, h⟩
    · simp; omega
    · rcases hA with h2 | ⟨b2, o2, e2, hb2, _⟩
      · exact absurd h2 hn
      · rw [h] at e2; injection e2 with e2; injection e2 with e2; simp; omega) (fun u hu => values_visits xs hl w.heap.size A c u (heap_up hu (Boxed.new w _ _)) (Reads.up (Reads.up hA hb0) hu)))
  have HC : Hid (cntS xs = (Lib.compact (srt xs)).length) := Lib.hid rfl
  have HL := Lib.hid (srt_len xs)
  clear hA hb0
  generalize cntS xs = N at HC ⊢
  go_enter Tryd.func42, Tryd.ntmps42
  go_wp2_with (first | (go_at_call 64; refine HVA.out.mono ?_; rintro e w1 ⟨rfl, rfl⟩) | (go_at_call 63; refine HS.out.mono ?_; rintro e w2 ⟨v, rfl, ho, hb⟩; have HB := Lib.hid (HB0.out.trans (hb.mono (by simp))); have HCC := Lib.hid (compact_any _ v _ w2 ho (by have := HL.out; omega)); have HSZ := Lib.hid hb.size; obtain ⟨ao, c2, rfl⟩ := OwnE.slice ho; clear ho hb) | (go_at_call 62; refine HCC.out.mono ?_; rintro e w3 ⟨⟨A3, c3, rfl⟩, hb3⟩))
  go_ret
  exact ⟨ret_int (by rw [HC.out]), HB.out.trans (hb3.mono (by simp))⟩

end Go.Proofs.YtaeelanbkdkppaaDoor

/-
  How many different elements a list has, and what that says.
-/
namespace Go.Proofs.YtaeelanbkdkppaaDoor

theorem nodup_le {l k : List Int} (h : l.Nodup) (hs : ∀ x ∈ l, x ∈ k) : l.length ≤ k.length := by
  induction l generalizing k with
  | nil => simp
  | cons x l ih =>
    obtain ⟨h1, h2⟩ := List.nodup_cons.1 h
    have hx := hs x (by simp)
    have := ih (k := k.erase x) h2 fun y hy => (List.mem_erase_of_ne (fun e => h1 (by rw [← e]; exact hy))).2 (hs y (by simp [hy]))
    rw [List.length_erase_of_mem hx] at this
    have := List.length_pos_of_mem hx
    simp
    omega
/-- of an ascending list: what is left has no two equal elements, and the same ones -/
theorem compactUp (zs : List Int) (h : zs.Pairwise (· ≤ ·)) (m : Nat) (hm : m ≤ zs.length) :
    (Lib.compactUpTo zs.toArray m).Nodup ∧ (∀ x, x ∈ Lib.compactUpTo zs.toArray m ↔ x ∈ zs.take m) := by
  induction m with
  | zero => simp [Lib.compactUpTo]
  | succ m ih =>
    obtain ⟨h1, h2⟩ := ih (by omega)
    have hlt : m < zs.length := by omega
    have hg : zs.toArray[m]! = zs[m] := by simp [hlt]
    rw [Lib.compactUpTo_succ, hg]
    have ht : zs.take (m + 1) = zs.take m ++ [zs[m]] := by rw [List.take_add_one, List.getElem?_eq_getElem hlt]; rfl
    rw [ht]
    by_cases hk : Lib.keeps zs.toArray m = true
    · rw [if_pos hk]
      have hn : zs[m] ∉ zs.take m := fun hx => by
        obtain ⟨i, hi, e⟩ := List.mem_iff_getElem.1 hx
        have him : i < m := by simp at hi; omega
        rw [List.getElem_take] at e
        rcases of_decide_eq_true (by simpa [Lib.keeps] using hk : decide (m = 0 ∨ zs.toArray[m]! ≠ zs.toArray[m - 1]!) = true) with h0 | h0
        · omega
        · have hg2 : zs.toArray[m - 1]! = zs[m - 1]'(by omega) := by simp [show m - 1 < zs.length by omega]
          rw [hg, hg2] at h0
          have a1 : zs[m - 1]'(by omega) ≤ zs[m] := List.pairwise_iff_getElem.1 h (m - 1) m (by omega) hlt (by omega)
          have a2 : zs[i]'(by omega) ≤ zs[m - 1]'(by omega) := by
            rcases Nat.lt_or_ge i (m - 1) with h3 | h3
            · exact List.pairwise_iff_getElem.1 h i (m - 1) (by omega) (by omega) h3
            · have : i = m - 1 := by omega
              subst this
              exact Int.le_refl _
          omega
      refine ⟨?_, fun x => by rw [List.mem_append, List.mem_append, h2]⟩
      rw [List.nodup_append]
      refine ⟨h1, by simp, fun x hx y hy => ?_⟩
      simp at hy
      subst hy
      exact fun e => hn (by rw [← e]; exact (h2 x).1 hx)
    · rw [if_neg hk, List.append_nil]
      refine ⟨h1, fun x => ?_⟩
      have hk' : Lib.keeps zs.toArray m = false := by simpa using hk
      have hm0 : m ≠ 0 ∧ zs.toArray[m]! = zs.toArray[m - 1]! := by
        have := of_decide_eq_false (by simpa [Lib.keeps] using hk' : decide (m = 0 ∨ zs.toArray[m]! ≠ zs.toArray[m - 1]!) = false)
        exact ⟨fun e => this (.inl e), Classical.byContradiction fun e => this (.inr e)⟩
      have hg2 : zs.toArray[m - 1]! = zs[m - 1]'(by omega) := by simp [show m - 1 < zs.length by omega]
      rw [hg, hg2] at hm0
      rw [h2, List.mem_append, List.mem_singleton]
      refine ⟨.inl, fun hx => hx.elim id fun e => ?_⟩
      rw [e, hm0.2]
      exact List.mem_iff_getElem.2 ⟨m - 1, by simp; omega, by rw [List.getElem_take]⟩
theorem srt_asc (xs : List Int) : (srt xs).Pairwise (· ≤ ·) := by
  have := List.pairwise_mergeSort (le := fun x y : Int => decide (x ≤ y)) (fun a b c h1 h2 => by simp at *; omega) (fun a b => by simp; omega) xs
  unfold srt
  exact this.imp fun h => by simpa using h
theorem cnt_spec (xs : List Int) : ∃ cz : List Int, cntS xs = cz.length ∧ cz.Nodup ∧ ∀ x, x ∈ cz ↔ x ∈ xs := by
  have h := compactUp (srt xs) (srt_asc xs) (srt xs).length (Nat.le_refl _)
  refine ⟨Lib.compact (srt xs), rfl, h.1, fun x => (h.2 x).trans ?_⟩
  rw [List.take_length]
  unfold srt
  exact List.mem_mergeSort
theorem cnt_nodup (xs : List Int) : cntS xs = xs.length ↔ xs.Nodup := by
  obtain ⟨cz, e, h1, h2⟩ := cnt_spec xs
  rw [e]
  constructor
  · intro hl
    refine Classical.byContradiction fun hn => ?_
    rw [nodup_iff] at hn
    have ⟨i, k, hi, hk, he⟩ : ∃ i k, i < xs.length ∧ k < i ∧ xs.getD i 0 = xs.getD k 0 := Classical.byContradiction fun h => hn fun i k hi hk he => h ⟨i, k, hi, hk, he⟩
    have hsub : ∀ x ∈ cz, x ∈ xs.eraseIdx i := fun x hx => by
      obtain ⟨j, hj, ej⟩ := List.mem_iff_getElem.1 ((h2 x).1 hx)
      rw [List.mem_eraseIdx_iff_getElem]
      by_cases hji : j = i
      · subst hji
        refine ⟨k, by omega, by omega, ?_⟩
        rw [← ej, ← getD_eq (show k < xs.length by omega), ← getD_eq hj]
        exact he.symm
      · exact ⟨j, hj, hji, ej⟩
    have := nodup_le h1 hsub
    rw [List.length_eraseIdx_of_lt hi] at this
    omega
  · intro hn
    exact Nat.le_antisymm (nodup_le h1 fun x hx => (h2 x).1 hx) (nodup_le hn fun x hx => (h2 x).2 hx)
theorem num0_mem {n : Nat} {x : Int} : x ∈ numS (0 : Nat) n ↔ 0 ≤ x ∧ x < n := by
  rw [List.mem_iff_getElem]
  constructor
  · rintro ⟨i, hi, e⟩
    have hl : i < n := by rw [num_length] at hi; exact hi
    rw [← getD_eq hi, num_get hl] at e
    omega
  · rintro ⟨h1, h2⟩
    refine ⟨x.toNat, by rw [num_length]; omega, ?_⟩
    rw [← getD_eq (by rw [num_length]; omega), num_get (by omega)]
    omega
theorem num0_nodup (n : Nat) : (numS (0 : Nat) n).Nodup := by
  rw [nodup_iff]
  intro i k hi hk
  rw [num_length] at hi
  rw [num_get hi, num_get (by omega)]
  omega
theorem cnt_cov (xs : List Int) (n : Nat) (hr : ∀ x ∈ xs, 0 ≤ x ∧ x < n) : cntS xs = n ↔ Cov xs n := by
  obtain ⟨cz, e, h1, h2⟩ := cnt_spec xs
  rw [e]
  constructor
  · intro hl k hk
    refine Classical.byContradiction fun hn => ?_
    have hsub : ∀ x ∈ cz, x ∈ (numS (0 : Nat) n).erase (k : Int) := fun x hx => by
      refine (List.mem_erase_of_ne fun e => hn (by rw [← e]; exact (h2 x).1 hx)).2 (num0_mem.2 (hr x ((h2 x).1 hx)))
    have := nodup_le h1 hsub
    rw [List.length_erase_of_mem (num0_mem.2 (by omega)), num_length] at this
    omega
  · intro hc
    have a1 := nodup_le h1 (k := numS (0 : Nat) n) fun x hx => num0_mem.2 (hr x ((h2 x).1 hx))
    have a2 := nodup_le (num0_nodup n) (k := cz) fun x hx => (h2 x).2 (by
      have := num0_mem.1 hx
      have h3 := hc x.toNat (by omega)
      rwa [show ((x.toNat : Nat) : Int) = x by omega] at h3)
    rw [num_length] at a1 a2
    omega

end Go.Proofs.YtaeelanbkdkppaaDoor

/-
  The boxes of a call: its arguments, one after another, two cells each; and a result.
-/
namespace Go.Proofs.YtaeelanbkdkppaaDoor
open Go.RowKit Go.Shelf

abbrev Bx := Value × Value × TypeId
/-- since w: the boxes L in new blocks, one after another -/
def SR (w : World) (L : List Bx) (u : World) : Prop := Below w.heap.size w u ∧ ∀ (i : Nat) (x : Bx), L[i]? = some x → u.heap[w.heap.size + i]? = some (.cells #[x.1, x.2.1] x.2.2 (0, 0))
theorem SR.nil (w : World) : SR w [] w := ⟨Below.refl _ _, fun i x h => by simp at h⟩
theorem SR.push {w u : World} {L : List Bx} (h : SR w L u) (hs : u.heap.size = w.heap.size + L.length) (a b : Value) (t : TypeId) : SR w (L ++ [(a, b, t)]) (u.alloc (.cells #[a, b] t)) := by
  refine ⟨h.1.alloc (by omega) _, fun i x hx => ?_⟩
  by_cases hi : i < L.length
  · rw [List.getElem?_append_left hi] at hx
    rw [at_alloc, if_neg (by omega)]
    exact h.2 i x hx
  · rw [List.getElem?_append_right (by omega)] at hx
    have h0 : i - L.length = 0 := by
      rcases Nat.eq_zero_or_pos (i - L.length) with h | h
      · exact h
      · rw [List.getElem?_eq_none (by simp; omega)] at hx; cases hx
    rw [h0] at hx
    simp at hx
    subst hx
    rw [at_alloc, if_pos (by omega)]
theorem SR.up {w u u' : World} {L : List Bx} (h : SR w L u) (hb : Below u.heap.size u u') : SR w L u' := ⟨h.1.trans (hb.mono h.1.size), fun i x hx => heap_up hb (h.2 i x hx)⟩
theorem SR.cell {w u : World} {L : List Bx} (h : SR w L u) {i : Nat} {x : Bx} (hx : L[i]? = some x) : u.cell? ⟨w.heap.size + i, 0, none⟩ = some x.1 ∧ u.cell? ⟨w.heap.size + i, 1, none⟩ = some x.2.1 := cell2 (h.2 i x hx)
theorem SR.free {w u : World} {L : List Bx} (h : SR w L u) {i : Nat} {x : Bx} (hx : L[i]? = some x) (j : Nat) : u.frozen? ⟨w.heap.size + i, j, none⟩ = false := frozen_of_row _ _ _ _ _ (h.2 i x hx)
/-- both cells of a box written anew -/
theorem SR.set {w u : World} {L : List Bx} {i : Nat} {x : Bx} (h : SR w L u) (hx : L[i]? = some x) (a b : Value) : SR w (L.set i (a, b, x.2.2)) ((u.setCell ⟨w.heap.size + i, 0, none⟩ a).setCell ⟨w.heap.size + i, 1, none⟩ b) := by
  refine ⟨(h.1.setCell (p := ⟨w.heap.size + i, 0, none⟩) (by show w.heap.size ≤ w.heap.size + i; omega) a).setCell (p := ⟨w.heap.size + i, 1, none⟩) (by show w.heap.size ≤ w.heap.size + i; omega) b, fun k y hy => ?_⟩
  by_cases e : i = k
  · subst e
    have hl : i < L.length := (List.getElem?_eq_some_iff.1 hx).1
    rw [List.getElem?_set, if_pos rfl, if_pos hl] at hy
    injection hy with hy
    subst hy
    exact store2 (h := w.heap.size + i) ⟨_, _, h.2 i x hx⟩ a b
  · rw [List.getElem?_set, if_neg e] at hy
    exact (heap_setCell_other _ _ _ _ (by show w.heap.size + k ≠ w.heap.size + i; omega)).trans ((heap_setCell_other _ _ _ _ (by show w.heap.size + k ≠ w.heap.size + i; omega)).trans (h.2 k y hy))
theorem cell_up {u u' : World} {g o : Nat} {v : Value} (hb : Below u.heap.size u u') (h : u.cell? ⟨g, o, none⟩ = some v) : u'.cell? ⟨g, o, none⟩ = some v := (hb.cell (p := ⟨g, o, none⟩) (World.block_lt_of_cell? _ _ h)).trans h

set_option maxHeartbeats 1000000 in
theorem sameMo_any (a b : Mo) (An : Option Addr) (cn : Nat) (Ae : Option Addr) (ce : Nat) (Bn : Option Addr) (dn : Nat) (Be : Option Addr) (de : Nat) (w : World) (l1 : a.ns.length ≤ maxLen) (l2 : a.es.length ≤ maxLen)
    (ha : Ints w w.heap.size An a.ns) (ha2 : Ints w w.heap.size Ae a.es) (hb : Ints w w.heap.size Bn b.ns) (hb2 : Ints w w.heap.size Be b.es) :
    Calls Tryd.prog 24 #[gval An a.ns.length cn Ae a.es.length ce, gval Bn b.ns.length dn Be b.es.length de] w fun e w' => e = .returned (.bool (decide (a = b))) ∧ Below w.heap.size w w' := by
  have HB0 : Hid (∀ o o', Below w.heap.size w ((w.alloc o).alloc o')) := Lib.hid fun o o' => ((Below.refl _ _).alloc (Nat.le_refl _) _).alloc (by simp) _
  have H1 := Lib.hid (fun u (hu : Below w.heap.size w u) => equal_any a.ns b.ns An Bn w.heap.size w.heap.size cn dn u l1 (Reads.below ha hu) (Reads.below hb hu))
  have H2 := Lib.hid (fun u (hu : Below w.heap.size w u) => equal_any a.es b.es Ae Be w.heap.size w.heap.size ce de u l2 (Reads.below ha2 hu) (Reads.below hb2 hu))
  have HX := Lib.hid (mo_eq a b)
  clear ha hb ha2 hb2
  generalize decide (a = b) = z at HX ⊢
  generalize decide (a.ns = b.ns) = z1 at H1 HX
  generalize decide (a.es = b.es) = z2 at H2 HX
  go_enter Tryd.func24, Tryd.ntmps24
  go_wp2_with fail
  refine (H1.out _ (HB0.out _ _)).mono ?_
  rintro e w1 ⟨rfl, hb1⟩
  obtain ⟨b0, b1, hsz⟩ := boxes2 hb1
  obtain ⟨c0, c1⟩ := cell2 b0
  obtain ⟨c2, c3⟩ := cell2 b1
  have HB := Lib.hid ((HB0.out _ _).trans (hb1.mono (by simp; omega)))
  clear b0 b1 hb1
  cases z1
  · go_wp2_with fail
    go_ret
    exact ⟨ret_bool (by rw [HX.out]; rfl), HB.out⟩
  · go_wp2_with fail
    refine (H2.out _ HB.out).mono ?_
    rintro e w2 ⟨rfl, hb2⟩
    have HB2 := Lib.hid (HB.out.trans (hb2.mono (by omega)))
    clear hb2
    go_wp2_with fail
    go_ret
    exact ⟨ret_bool (by rw [HX.out]; rfl), HB2.out⟩

/-! what the other functions answer, as plain data -/
noncomputable def injB (a b : Gr) (m : Mo) : Bool := @decide (morE a b m = 0 ∧ InjM m) (Classical.propDecidable _)
noncomputable def surB (a b : Gr) (m : Mo) : Bool := @decide (morE a b m = 0 ∧ SurM b m) (Classical.propDecidable _)
def cmpE (a b c : Gr) (m n : Mo) : Nat := if morE a b m ≠ 0 then morE a b m else morE b c n
def cmpR (a b c : Gr) (m n : Mo) : Mo := if cmpE a b c m n = 0 then compM m n else noM
theorem injB_iff {a b : Gr} {m : Mo} : injB a b m = true ↔ morE a b m = 0 ∧ InjM m := by unfold injB; exact @decide_eq_true_iff _ (Classical.propDecidable _)
theorem surB_iff {a b : Gr} {m : Mo} : surB a b m = true ↔ morE a b m = 0 ∧ SurM b m := by unfold surB; exact @decide_eq_true_iff _ (Classical.propDecidable _)
theorem injB_cnt (a b : Gr) (m : Mo) : injB a b m = if morE a b m = 0 then (((cntS m.ns : Int) == (a.ns.length : Int)) && ((cntS m.es : Int) == (a.es.length : Int))) else false := by
  by_cases h : morE a b m = 0
  · rw [if_pos h]
    have hk := mor_zero.1 h
    have e1 := cnt_nodup m.ns
    have e2 := cnt_nodup m.es
    rw [hk.ln] at e1
    rw [hk.le] at e2
    rw [Bool.eq_iff_iff, injB_iff, Bool.and_eq_true, beq_iff_eq, beq_iff_eq]
    unfold InjM
    rw [← e1, ← e2]
    constructor
    · rintro ⟨_, h1, h2⟩; exact ⟨by omega, by omega⟩
    · rintro ⟨h1, h2⟩; exact ⟨h, by omega, by omega⟩
  · rw [if_neg h]
    refine Bool.eq_false_iff.2 fun e => h (injB_iff.1 e).1
theorem surB_cnt (a b : Gr) (m : Mo) : surB a b m = if morE a b m = 0 then (((cntS m.ns : Int) == (b.ns.length : Int)) && ((cntS m.es : Int) == (b.es.length : Int))) else false := by
  by_cases h : morE a b m = 0
  · rw [if_pos h]
    have hk := mor_zero.1 h
    have e1 := cnt_cov m.ns b.ns.length hk.rn
    have e2 := cnt_cov m.es b.es.length hk.re
    rw [Bool.eq_iff_iff, surB_iff, Bool.and_eq_true, beq_iff_eq, beq_iff_eq]
    unfold SurM
    rw [← e1, ← e2]
    constructor
    · rintro ⟨_, h1, h2⟩; exact ⟨by omega, by omega⟩
    · rintro ⟨h1, h2⟩; exact ⟨h, by omega, by omega⟩
  · rw [if_neg h]
    refine Bool.eq_false_iff.2 fun e => h (surB_iff.1 e).1

end Go.Proofs.YtaeelanbkdkppaaDoor

/-
  Identity, Compose, Inverse, Injective, Surjective of the program. Printed by mkops.py.
-/
namespace Go.Proofs.YtaeelanbkdkppaaDoor
open Go.RowKit Go.Shelf

set_option maxRecDepth 100000 in
set_option maxHeartbeats 4000000 in
theorem composeM_any (a b c : Gr) (m n : Mo) (An : Option Addr) (cn : Nat) (Ae : Option Addr) (ce : Nat) (Bn : Option Addr) (dn : Nat) (Be : Option Addr) (de : Nat) (Cn : Option Addr) (kn : Nat) (Ce : Option Addr) (ke : Nat) (Mn : Option Addr) (mn : Nat) (Me : Option Addr) (me : Nat) (Nn : Option Addr) (nn : Nat) (Ne : Option Addr) (ne : Nat) (w : World) (hTa : GrAt w An cn Ae ce a) (hTb : GrAt w Bn dn Be de b) (hTc : GrAt w Cn kn Ce ke c) (hm1 : Ints w w.heap.size Mn m.ns) (hm2 : Ints w w.heap.size Me m.es) (lm1 : m.ns.length ≤ 1000) (lm2 : m.es.length ≤ 1000) (hn1 : Ints w w.heap.size Nn n.ns) (hn2 : Ints w w.heap.size Ne n.es) (ln1 : n.ns.length ≤ 1000) (ln2 : n.es.length ≤ 1000) :
    Calls Tryd.prog 25 #[gval An a.ns.length cn Ae a.es.length ce, gval Bn b.ns.length dn Be b.es.length de, gval Cn c.ns.length kn Ce c.es.length ke, gval Mn m.ns.length mn Me m.es.length me, gval Nn n.ns.length nn Ne n.es.length ne] w fun e w' => (∃ v, e = .returned (.tuple #[v, .int .i64 (cmpE a b c m n : Int)]) ∧ IsM w' v (cmpR a b c m n)) ∧ Below w.heap.size w w' := by
  have hS0 : SR w _ ((((((w.alloc (.cells #[.slice An a.ns.length cn, .slice Ae a.es.length ce] 25)).alloc (.cells #[.slice Bn b.ns.length dn, .slice Be b.es.length de] 25)).alloc (.cells #[.slice Cn c.ns.length kn, .slice Ce c.es.length ke] 25)).alloc (.cells #[.slice Mn m.ns.length mn, .slice Me m.es.length me] 27)).alloc (.cells #[.slice Nn n.ns.length nn, .slice Ne n.es.length ne] 27)).alloc (.cells #[.slice none 0 0, .slice none 0 0] 27)) := SR.push (SR.push (SR.push (SR.push (SR.push (SR.push (SR.nil w) rfl _ _ _) (by simp) _ _ _) (by simp) _ _ _) (by simp) _ _ _) (by simp) _ _ _) (by simp) _ _ _
  have HV := Lib.hid (validM_any a b m An cn Ae ce Bn dn Be de Mn mn Me me _ (hTa.up hS0.1) (hTb.up hS0.1) (Reads.up hm1 hS0.1) (Reads.up hm2 hS0.1) lm1 lm2)
  have HV2 := Lib.hid (fun (u : World) (hu : Below w.heap.size w u) => validM_any b c n Bn dn Be de Cn kn Ce ke Nn nn Ne ne u (hTb.up hu) (hTc.up hu) (Reads.up hn1 hu) (Reads.up hn2 hu) ln1 ln2)
  have HZ := Lib.hid (fun h => mor_zero (a := a) (b := b) (m := m).1 h)
  have HZ2 := Lib.hid (fun h => mor_zero (a := b) (b := c) (m := n).1 h)
  have HE : Hid (cmpE a b c m n = if morE a b m ≠ 0 then morE a b m else morE b c n) := Lib.hid rfl
  have HI : Hid (cmpR a b c m n = if cmpE a b c m n = 0 then compM m n else noM) := Lib.hid rfl
  have HS0 := Lib.hid hS0
  have HF1 := Lib.hid (fun (hr : ∀ x ∈ m.ns, 0 ≤ x ∧ x < n.ns.length) (u : World) (hu : Below w.heap.size w u) => follow_any m.ns n.ns Mn Nn mn nn u lm1 hr (Reads.up hm1 hu) (Reads.up hn1 hu))
  have HF2 := Lib.hid (fun (hr : ∀ x ∈ m.es, 0 ≤ x ∧ x < n.es.length) (u : World) (hu : Below w.heap.size w u) => follow_any m.es n.es Me Ne me ne u lm2 hr (Reads.up hm2 hu) (Reads.up hn2 hu))
  clear hTa hTb hTc hm1 hm2 hn1 hn2 hS0
  generalize cmpR a b c m n = R at HI ⊢
  generalize cmpE a b c m n = E at *
  generalize morE a b m = z at *
  generalize morE b c n = z2 at *
  go_enter Tryd.func25, Tryd.ntmps25
  go_wp2_with fail
  refine HV.out.mono ?_
  rintro e w0 ⟨rfl, hb1⟩
  have HS := Lib.hid (HS0.out.up hb1)
  clear hb1 HS0 HV
  obtain ⟨c0x, c0y⟩ := HS.out.cell (i := 0) rfl
  obtain ⟨c1x, c1y⟩ := HS.out.cell (i := 1) rfl
  obtain ⟨c2x, c2y⟩ := HS.out.cell (i := 2) rfl
  obtain ⟨c3x, c3y⟩ := HS.out.cell (i := 3) rfl
  obtain ⟨c4x, c4y⟩ := HS.out.cell (i := 4) rfl
  obtain ⟨c5x, c5y⟩ := HS.out.cell (i := 5) rfl
  simp only [Nat.add_zero] at c0x c0y
  have fr0 := HS.out.free (i := 5) rfl 0
  have fr1 := HS.out.free (i := 5) rfl 1
  by_cases hz : z = 0
  case neg =>
    have t1 : ((z : Int) != 0) = true := by simp; omega
    have hE : E = z := by rw [HE.out, if_pos hz]
    have HEE := Lib.hid hE
    have HR := Lib.hid (show R = noM by rw [HI.out, if_neg (by rw [hE]; exact hz)])
    clear hz hE
    go_wp2_with fail
    have hS2 := HS.out.set (i := 5) rfl (.slice none 0 0) (.slice none 0 0)
    obtain ⟨r0, r1⟩ := hS2.cell (i := 5) rfl
    refine bodyPost_ret (v := .tuple #[gval none 0 0 none 0 0, .int .i64 ((z : Nat))]) (by simp [results, Tryd.results25, go_sem, r0, r1]) rfl ?_
    exact ⟨⟨_, by rw [HEE.out], by rw [HR.out]; exact isM_nil _⟩, hS2.1⟩
  subst hz
  have HK1 := Lib.hid (HZ.out rfl)
  clear HZ
  have HEE := Lib.hid (show E = z2 by rw [HE.out, if_neg (fun h => h rfl)])
  clear c0x c0y c1x c1y c2x c2y c3x c3y c4x c4y c5x c5y fr0 fr1
  obtain ⟨c0x, c0y⟩ := HS.out.cell (i := 0) rfl
  obtain ⟨c1x, c1y⟩ := HS.out.cell (i := 1) rfl
  obtain ⟨c2x, c2y⟩ := HS.out.cell (i := 2) rfl
  obtain ⟨c3x, c3y⟩ := HS.out.cell (i := 3) rfl
  obtain ⟨c4x, c4y⟩ := HS.out.cell (i := 4) rfl
  obtain ⟨c5x, c5y⟩ := HS.out.cell (i := 5) rfl
  simp only [Nat.add_zero] at c0x c0y
  go_wp2_with fail
  refine (HV2.out _ HS.out.1).mono ?_
  rintro e w1 ⟨rfl, hb1⟩
  clear c0x c0y c1x c1y c2x c2y c3x c3y c4x c4y c5x c5y
  have HS := Lib.hid (HS.out.up hb1)
  clear hb1 HV2
  obtain ⟨c0x, c0y⟩ := HS.out.cell (i := 0) rfl
  obtain ⟨c1x, c1y⟩ := HS.out.cell (i := 1) rfl
  obtain ⟨c2x, c2y⟩ := HS.out.cell (i := 2) rfl
  obtain ⟨c3x, c3y⟩ := HS.out.cell (i := 3) rfl
  obtain ⟨c4x, c4y⟩ := HS.out.cell (i := 4) rfl
  obtain ⟨c5x, c5y⟩ := HS.out.cell (i := 5) rfl
  simp only [Nat.add_zero] at c0x c0y
  have fr0 := HS.out.free (i := 5) rfl 0
  have fr1 := HS.out.free (i := 5) rfl 1
  by_cases hz : z2 = 0
  case neg =>
    have t1 : ((z2 : Int) != 0) = true := by simp; omega
    have HR := Lib.hid (show R = noM by rw [HI.out, if_neg (by rw [HEE.out]; exact hz)])
    clear hz
    go_wp2_with fail
    have hS2 := HS.out.set (i := 5) rfl (.slice none 0 0) (.slice none 0 0)
    obtain ⟨r0, r1⟩ := hS2.cell (i := 5) rfl
    refine bodyPost_ret (v := .tuple #[gval none 0 0 none 0 0, .int .i64 ((z2 : Nat))]) (by simp [results, Tryd.results25, go_sem, r0, r1]) rfl ?_
    exact ⟨⟨_, by rw [HEE.out], by rw [HR.out]; exact isM_nil _⟩, hS2.1⟩
  subst hz
  have k1 := HK1.out
  have k2 := HZ2.out rfl
  have HN1 := Lib.hid (HF1.out fun x hx => by rw [k2.ln]; exact k1.rn x hx)
  have HN2 := Lib.hid (HF2.out fun x hx => by rw [k2.le]; exact k1.re x hx)
  have HR : Hid (R = ⟨thr m.ns n.ns, thr m.es n.es⟩) := Lib.hid (by rw [HI.out, if_pos HEE.out]; rfl)
  generalize thr m.ns n.ns = L1 at *
  generalize thr m.es n.es = L2 at *
  clear HK1 HZ2 HI HE k1 k2 HF1 HF2
  go_wp2_with fail
  have HSd : Hid (SR w _ w1.drew) := Lib.hid (HS.out.up (below_d _))
  have HS1 : Hid ((fun u : World => u.cell? ⟨w.heap.size + 1 + 1 + 1, 0, none⟩ = some (.slice Mn m.ns.length mn) ∧ u.cell? ⟨w.heap.size + 1 + 1 + 1, 1, none⟩ = some (.slice Me m.es.length me) ∧ u.cell? ⟨w.heap.size + 1 + 1 + 1 + 1, 0, none⟩ = some (.slice Nn n.ns.length nn) ∧ u.cell? ⟨w.heap.size + 1 + 1 + 1 + 1, 1, none⟩ = some (.slice Ne n.es.length ne)) w1.drew) := Lib.hid ⟨c3x, c3y, c4x, c4y⟩
  have HUP : Hid (∀ u u', (fun u : World => u.cell? ⟨w.heap.size + 1 + 1 + 1, 0, none⟩ = some (.slice Mn m.ns.length mn) ∧ u.cell? ⟨w.heap.size + 1 + 1 + 1, 1, none⟩ = some (.slice Me m.es.length me) ∧ u.cell? ⟨w.heap.size + 1 + 1 + 1 + 1, 0, none⟩ = some (.slice Nn n.ns.length nn) ∧ u.cell? ⟨w.heap.size + 1 + 1 + 1 + 1, 1, none⟩ = some (.slice Ne n.es.length ne)) u → Below u.heap.size u u' → (fun u : World => u.cell? ⟨w.heap.size + 1 + 1 + 1, 0, none⟩ = some (.slice Mn m.ns.length mn) ∧ u.cell? ⟨w.heap.size + 1 + 1 + 1, 1, none⟩ = some (.slice Me m.es.length me) ∧ u.cell? ⟨w.heap.size + 1 + 1 + 1 + 1, 0, none⟩ = some (.slice Nn n.ns.length nn) ∧ u.cell? ⟨w.heap.size + 1 + 1 + 1 + 1, 1, none⟩ = some (.slice Ne n.es.length ne)) u') := Lib.hid fun u u' h hb => ⟨cell_up hb (h.1), cell_up hb (h.2.1), cell_up hb (h.2.2.1), cell_up hb (h.2.2.2)⟩
  clear c0x c0y c1x c1y c2x c2y c3x c3y c4x c4y c5x c5y fr0 fr1
  refine wp_region_noPanic ?_
  refine wp_region_held_drew (S := (fun u : World => u.cell? ⟨w.heap.size + 1 + 1 + 1, 0, none⟩ = some (.slice Mn m.ns.length mn) ∧ u.cell? ⟨w.heap.size + 1 + 1 + 1, 1, none⟩ = some (.slice Me m.es.length me) ∧ u.cell? ⟨w.heap.size + 1 + 1 + 1 + 1, 0, none⟩ = some (.slice Nn n.ns.length nn) ∧ u.cell? ⟨w.heap.size + 1 + 1 + 1 + 1, 1, none⟩ = some (.slice Ne n.es.length ne))) (by kernel_rfl) (HS1.out) (fun hHeld => ?_)
  refine wpAnyH_take (i := 0) (v := ?_) (oper_at (r := _) rfl) (by kernel_rfl) (by kernel_rfl) (by kernel_rfl) (fun _ _ _ h => h) (Or.inl ⟨by rfl, ?_⟩) (by assumption) ?_
  rotate_left
  · intro w hSw; try dsimp only at hSw
    go_simp
    try with_reducible rfl
  try simp only [Act.put, List.setIfInBounds_toArray, List.set_cons_zero, List.set_cons_succ]
  refine wpAnyH_take (i := 1) (v := ?_) (oper_at (r := _) rfl) (by kernel_rfl) (by kernel_rfl) (by kernel_rfl) (fun _ _ _ h => h) (Or.inl ⟨by rfl, ?_⟩) (by assumption) ?_
  rotate_left
  · intro w hSw; try dsimp only at hSw
    go_simp
    try with_reducible rfl
  try simp only [Act.put, List.setIfInBounds_toArray, List.set_cons_zero, List.set_cons_succ]
  refine wpAnyH_take (i := 2) (v := ?_) (oper_at (r := _) rfl) (by kernel_rfl) (by kernel_rfl) (by kernel_rfl) (fun _ _ _ h => h) (Or.inl ⟨by rfl, ?_⟩) (by assumption) ?_
  rotate_left
  · intro w hSw; try dsimp only at hSw
    go_simp
    try with_reducible rfl
  try simp only [Act.put, List.setIfInBounds_toArray, List.set_cons_zero, List.set_cons_succ]
  refine wpAnyH_take (i := 3) (v := ?_) (oper_at (r := _) rfl) (by kernel_rfl) (by kernel_rfl) (by kernel_rfl) (fun _ _ _ h => h) (Or.inl ⟨by rfl, ?_⟩) (by assumption) ?_
  rotate_left
  · intro w hSw; try dsimp only at hSw
    go_simp
    try with_reducible rfl
  try simp only [Act.put, List.setIfInBounds_toArray, List.set_cons_zero, List.set_cons_succ]
  refine wpAnyH_take (i := 5) (v := ?_) (oper_at (r := _) rfl) (by kernel_rfl) (by kernel_rfl) (by kernel_rfl) (fun _ _ _ h => h) (Or.inl ⟨by rfl, ?_⟩) (by assumption) ?_
  rotate_left
  · intro w hSw; try dsimp only at hSw
    go_simp
    try with_reducible rfl
  try simp only [Act.put, List.setIfInBounds_toArray, List.set_cons_zero, List.set_cons_succ]
  refine wpAnyH_take (i := 6) (v := ?_) (oper_at (r := _) rfl) (by kernel_rfl) (by kernel_rfl) (by kernel_rfl) (fun _ _ _ h => h) (Or.inl ⟨by rfl, ?_⟩) (by assumption) ?_
  rotate_left
  · intro w hSw; try dsimp only at hSw
    go_simp
    try with_reducible rfl
  try simp only [Act.put, List.setIfInBounds_toArray, List.set_cons_zero, List.set_cons_succ]
  refine wpAnyH_take (i := 7) (v := ?_) (oper_at (r := _) rfl) (by kernel_rfl) (by kernel_rfl) (by kernel_rfl) (fun _ _ _ h => h) (Or.inl ⟨by rfl, ?_⟩) (by assumption) ?_
  rotate_left
  · intro w hSw; try dsimp only at hSw
    go_simp
    try with_reducible rfl
  try simp only [Act.put, List.setIfInBounds_toArray, List.set_cons_zero, List.set_cons_succ]
  refine wpAnyH_take (i := 8) (v := ?_) (oper_at (r := _) rfl) (by kernel_rfl) (by kernel_rfl) (by kernel_rfl) (fun _ _ _ h => h) (Or.inl ⟨by rfl, ?_⟩) (by assumption) ?_
  rotate_left
  · intro w hSw; try dsimp only at hSw
    go_simp
    try with_reducible rfl
  try simp only [Act.put, List.setIfInBounds_toArray, List.set_cons_zero, List.set_cons_succ]
  refine wpAnyH_ready (rs := [4]) (by kernel_rfl) (by simp) ?_
  refine AllReadyH.cons (oper_at (r := _) rfl) (fun K hK => ?_) AllReadyH.nil
  go_simp
  refine (HN1.out _ HSd.out.1).mono ?_
  rintro e w2 ⟨v2, rfl, ho2, hb2⟩
  have HS2 := Lib.hid (HUP.out _ _ HS1.out hb2)
  have HLE := Lib.hid hb2.size
  have HSR2 := Lib.hid (HSd.out.up hb2)
  have HO2 := Lib.hid ho2
  obtain ⟨A2, d2, rfl⟩ := OwnE.slice ho2
  clear ho2 hb2
  go_wp2_with fail
  refine hK.out _ _ (HS2.out) (fun _ => ?_)
  clear hK K
  try simp only [Act.put, List.setIfInBounds_toArray, List.set_cons_zero, List.set_cons_succ]
  refine wpAnyH_ready (rs := [9]) (by kernel_rfl) (by simp) ?_
  refine AllReadyH.cons (oper_at (r := _) rfl) (fun K hK => ?_) AllReadyH.nil
  go_simp
  refine (HN2.out _ HSR2.out.1).mono ?_
  rintro e w3 ⟨v3, rfl, ho3, hb3⟩
  have HS3 := Lib.hid (HUP.out _ _ HS2.out hb3)
  have HSR3 := Lib.hid (HSR2.out.up hb3)
  have HOO := Lib.hid (OwnE.below HO2.out hb3 (Nat.le_refl _))
  have HO3 := Lib.hid ho3
  obtain ⟨A3, d3, rfl⟩ := OwnE.slice ho3
  clear ho3 hb3 HO2
  go_wp2_with fail
  refine hK.out _ _ (HS3.out) (fun _ => ?_)
  clear hK K
  try simp only [Act.put, List.setIfInBounds_toArray, List.set_cons_zero, List.set_cons_succ]
  refine wpAnyH_take (i := 10) (v := ?_) (oper_at (r := _) rfl) (by kernel_rfl) (by kernel_rfl) (by kernel_rfl) (fun _ _ _ h => h) (Or.inl ⟨by rfl, ?_⟩) (by assumption) ?_
  rotate_left
  · intro w hSw; try dsimp only at hSw
    go_simp
    try with_reducible rfl
  try simp only [Act.put, List.setIfInBounds_toArray, List.set_cons_zero, List.set_cons_succ]
  obtain ⟨c5x, c5y⟩ := HSR3.out.cell (i := 5) rfl
  have fr0 := HSR3.out.free (i := 5) rfl 0
  have fr1 := HSR3.out.free (i := 5) rfl 1
  have HSZ := Lib.hid (HSR3.out.set (i := 5) rfl (.slice A2 L1.length d2) (.slice A3 L2.length d3))
  obtain ⟨z3x, z3y⟩ := HSZ.out.cell (i := 3) rfl
  obtain ⟨z4x, z4y⟩ := HSZ.out.cell (i := 4) rfl
  have HS4 : Hid ((fun u : World => u.cell? ⟨w.heap.size + 1 + 1 + 1, 0, none⟩ = some (.slice Mn m.ns.length mn) ∧ u.cell? ⟨w.heap.size + 1 + 1 + 1, 1, none⟩ = some (.slice Me m.es.length me) ∧ u.cell? ⟨w.heap.size + 1 + 1 + 1 + 1, 0, none⟩ = some (.slice Nn n.ns.length nn) ∧ u.cell? ⟨w.heap.size + 1 + 1 + 1 + 1, 1, none⟩ = some (.slice Ne n.es.length ne)) _) := Lib.hid ⟨z3x, z3y, z4x, z4y⟩
  clear z3x z3y z4x z4y
  refine wpAnyH_ready (rs := [11]) (by kernel_rfl) (by simp) ?_
  refine AllReadyH.cons (oper_at (r := _) rfl) (fun K hK => ?_) AllReadyH.nil
  go_simp
  refine hK.out _ _ (HS4.out) (fun _ => ?_)
  clear hK K
  try simp only [Act.put, List.setIfInBounds_toArray, List.set_cons_zero, List.set_cons_succ]
  refine wpAnyH_take (i := 12) (v := ?_) (oper_at (r := _) rfl) (by kernel_rfl) (by kernel_rfl) (by kernel_rfl) (fun _ _ _ h => h) (Or.inl ⟨by rfl, ?_⟩) (by assumption) ?_
  rotate_left
  · intro w hSw; try dsimp only at hSw
    go_simp
    try with_reducible rfl
  try simp only [Act.put, List.setIfInBounds_toArray, List.set_cons_zero, List.set_cons_succ]
  refine wpAnyH_done (by kernel_rfl) ?_ _
  refine NoPanic.normal ?_
  go_wp2_with fail
  obtain ⟨r0, r1⟩ := HSZ.out.cell (i := 5) rfl
  have hlt : w.heap.size + 5 < w1.heap.size := heap_lt (HS.out.2 5 _ rfl)
  have hsd := HSR2.out.1.size
  have hle : w1.drew.heap.size ≤ w2.heap.size := HLE.out
  refine bodyPost_ret (v := .tuple #[.agg #[.slice A2 L1.length d2, .slice A3 L2.length d3], .int .i64 0]) (by simp [results, Tryd.results25, go_sem, r0, r1]) rfl ?_
  have s1 : OwnI ((w3.setCell ⟨w.heap.size + 5, 0, none⟩ (.slice A2 L1.length d2)).setCell ⟨w.heap.size + 5, 1, none⟩ (.slice A3 L2.length d3)) _ _ _ := ownsRow_setCell_below (ownsRow_setCell_below HOO.out (by show w.heap.size + 5 < w1.heap.size; exact hlt) _) (by show w.heap.size + 5 < w1.heap.size; exact hlt) _
  have s2 : OwnI ((w3.setCell ⟨w.heap.size + 5, 0, none⟩ (.slice A2 L1.length d2)).setCell ⟨w.heap.size + 5, 1, none⟩ (.slice A3 L2.length d3)) _ _ _ := ownsRow_setCell_below (ownsRow_setCell_below HO3.out (by show w.heap.size + 5 < w2.heap.size; exact Nat.lt_of_lt_of_le hlt hle) _) (by show w.heap.size + 5 < w2.heap.size; exact Nat.lt_of_lt_of_le hlt hle) _
  exact ⟨⟨_, (by rw [HEE.out]; rfl), by rw [HR.out]; exact isM_of (g := ⟨L1, L2⟩) (isI_own s1) (isI_own s2)⟩, HSZ.out.1⟩

set_option maxRecDepth 100000 in
set_option maxHeartbeats 4000000 in
theorem injM_any (a b : Gr) (m : Mo) (An : Option Addr) (cn : Nat) (Ae : Option Addr) (ce : Nat) (Bn : Option Addr) (dn : Nat) (Be : Option Addr) (de : Nat) (Mn : Option Addr) (mn : Nat) (Me : Option Addr) (me : Nat) (w : World) (hTa : GrAt w An cn Ae ce a) (hTb : GrAt w Bn dn Be de b) (hm1 : Ints w w.heap.size Mn m.ns) (hm2 : Ints w w.heap.size Me m.es) (lm1 : m.ns.length ≤ 1000) (lm2 : m.es.length ≤ 1000) :
    Calls Tryd.prog 15 #[gval An a.ns.length cn Ae a.es.length ce, gval Bn b.ns.length dn Be b.es.length de, gval Mn m.ns.length mn Me m.es.length me] w fun e w' => e = .returned (.bool (injB a b m)) ∧ Below w.heap.size w w' := by
  have hS0 : SR w _ (((w.alloc (.cells #[.slice An a.ns.length cn, .slice Ae a.es.length ce] 25)).alloc (.cells #[.slice Bn b.ns.length dn, .slice Be b.es.length de] 25)).alloc (.cells #[.slice Mn m.ns.length mn, .slice Me m.es.length me] 27)) := SR.push (SR.push (SR.push (SR.nil w) rfl _ _ _) (by simp) _ _ _) (by simp) _ _ _
  have HV := Lib.hid (fun (u : World) (hu : Below w.heap.size w u) => validM_any a b m An cn Ae ce Bn dn Be de Mn mn Me me u (hTa.up hu) (hTb.up hu) (Reads.up hm1 hu) (Reads.up hm2 hu) lm1 lm2)
  have HC1 := Lib.hid (fun (u : World) (hu : Below w.heap.size w u) => countImages_any m.ns Mn mn u lm1 (Reads.up hm1 hu))
  have HC2 := Lib.hid (fun (u : World) (hu : Below w.heap.size w u) => countImages_any m.es Me me u lm2 (Reads.up hm2 hu))
  have HI := Lib.hid (injB_cnt a b m)
  have HS0 := Lib.hid hS0
  clear hTa hTb hm1 hm2 hS0
  generalize injB a b m = R at HI ⊢
  generalize morE a b m = z at *
  generalize cntS m.ns = k1 at *
  generalize cntS m.es = k2 at *
  go_enter Tryd.func15, Tryd.ntmps15
  go_wp2_with fail
  generalize hw1 : (((w.alloc (.cells #[.slice An a.ns.length cn, .slice Ae a.es.length ce] 25)).alloc (.cells #[.slice Bn b.ns.length dn, .slice Be b.es.length de] 25)).alloc (.cells #[.slice Mn m.ns.length mn, .slice Me m.es.length me] 27)) = w1 at *
  clear hw1
  have HSd : Hid (SR w _ w1.drew) := Lib.hid (HS0.out.up (below_d _))
  obtain ⟨c0x, c0y⟩ := HSd.out.cell (i := 0) rfl
  obtain ⟨c1x, c1y⟩ := HSd.out.cell (i := 1) rfl
  obtain ⟨c2x, c2y⟩ := HSd.out.cell (i := 2) rfl
  simp only [Nat.add_zero] at c0x c0y
  have HS1 : Hid ((fun u : World => u.cell? ⟨w.heap.size, 0, none⟩ = some (.slice An a.ns.length cn) ∧ u.cell? ⟨w.heap.size, 1, none⟩ = some (.slice Ae a.es.length ce) ∧ u.cell? ⟨w.heap.size + 1, 0, none⟩ = some (.slice Bn b.ns.length dn) ∧ u.cell? ⟨w.heap.size + 1, 1, none⟩ = some (.slice Be b.es.length de) ∧ u.cell? ⟨w.heap.size + 1 + 1, 0, none⟩ = some (.slice Mn m.ns.length mn) ∧ u.cell? ⟨w.heap.size + 1 + 1, 1, none⟩ = some (.slice Me m.es.length me)) w1.drew) := Lib.hid ⟨c0x, c0y, c1x, c1y, c2x, c2y⟩
  have HUP : Hid (∀ u u', (fun u : World => u.cell? ⟨w.heap.size, 0, none⟩ = some (.slice An a.ns.length cn) ∧ u.cell? ⟨w.heap.size, 1, none⟩ = some (.slice Ae a.es.length ce) ∧ u.cell? ⟨w.heap.size + 1, 0, none⟩ = some (.slice Bn b.ns.length dn) ∧ u.cell? ⟨w.heap.size + 1, 1, none⟩ = some (.slice Be b.es.length de) ∧ u.cell? ⟨w.heap.size + 1 + 1, 0, none⟩ = some (.slice Mn m.ns.length mn) ∧ u.cell? ⟨w.heap.size + 1 + 1, 1, none⟩ = some (.slice Me m.es.length me)) u → Below u.heap.size u u' → (fun u : World => u.cell? ⟨w.heap.size, 0, none⟩ = some (.slice An a.ns.length cn) ∧ u.cell? ⟨w.heap.size, 1, none⟩ = some (.slice Ae a.es.length ce) ∧ u.cell? ⟨w.heap.size + 1, 0, none⟩ = some (.slice Bn b.ns.length dn) ∧ u.cell? ⟨w.heap.size + 1, 1, none⟩ = some (.slice Be b.es.length de) ∧ u.cell? ⟨w.heap.size + 1 + 1, 0, none⟩ = some (.slice Mn m.ns.length mn) ∧ u.cell? ⟨w.heap.size + 1 + 1, 1, none⟩ = some (.slice Me m.es.length me)) u') := Lib.hid fun u u' h hb => ⟨cell_up hb (h.1), cell_up hb (h.2.1), cell_up hb (h.2.2.1), cell_up hb (h.2.2.2.1), cell_up hb (h.2.2.2.2.1), cell_up hb (h.2.2.2.2.2)⟩
  clear c0x c0y c1x c1y c2x c2y HS0
  refine wp_region_noPanic ?_
  refine wp_region_held_drew (S := (fun u : World => u.cell? ⟨w.heap.size, 0, none⟩ = some (.slice An a.ns.length cn) ∧ u.cell? ⟨w.heap.size, 1, none⟩ = some (.slice Ae a.es.length ce) ∧ u.cell? ⟨w.heap.size + 1, 0, none⟩ = some (.slice Bn b.ns.length dn) ∧ u.cell? ⟨w.heap.size + 1, 1, none⟩ = some (.slice Be b.es.length de) ∧ u.cell? ⟨w.heap.size + 1 + 1, 0, none⟩ = some (.slice Mn m.ns.length mn) ∧ u.cell? ⟨w.heap.size + 1 + 1, 1, none⟩ = some (.slice Me m.es.length me))) (by kernel_rfl) (HS1.out) (fun hHeld => ?_)
  refine wpAnyH_take (i := 0) (v := ?_) (oper_at (r := _) rfl) (by kernel_rfl) (by kernel_rfl) (by kernel_rfl) (fun _ _ _ h => h) (Or.inl ⟨by rfl, ?_⟩) (by assumption) ?_
  rotate_left
  · intro w hSw; try dsimp only at hSw
    go_simp
    try with_reducible rfl
  try simp only [Act.put, List.setIfInBounds_toArray, List.set_cons_zero, List.set_cons_succ]
  refine wpAnyH_take (i := 1) (v := ?_) (oper_at (r := _) rfl) (by kernel_rfl) (by kernel_rfl) (by kernel_rfl) (fun _ _ _ h => h) (Or.inl ⟨by rfl, ?_⟩) (by assumption) ?_
  rotate_left
  · intro w hSw; try dsimp only at hSw
    go_simp
    try with_reducible rfl
  try simp only [Act.put, List.setIfInBounds_toArray, List.set_cons_zero, List.set_cons_succ]
  refine wpAnyH_take (i := 2) (v := ?_) (oper_at (r := _) rfl) (by kernel_rfl) (by kernel_rfl) (by kernel_rfl) (fun _ _ _ h => h) (Or.inl ⟨by rfl, ?_⟩) (by assumption) ?_
  rotate_left
  · intro w hSw; try dsimp only at hSw
    go_simp
    try with_reducible rfl
  try simp only [Act.put, List.setIfInBounds_toArray, List.set_cons_zero, List.set_cons_succ]
  refine wpAnyH_ready (rs := [3]) (by kernel_rfl) (by simp) ?_
  refine AllReadyH.cons (oper_at (r := _) rfl) (fun K hK => ?_) AllReadyH.nil
  go_simp
  refine (HV.out _ HSd.out.1).mono ?_
  rintro e w2 ⟨rfl, hb2⟩
  have HS2 := Lib.hid (HUP.out _ _ HS1.out hb2)
  have HSR2 := Lib.hid (HSd.out.up hb2)
  clear hb2
  go_wp2_with fail
  refine hK.out _ _ (HS2.out) (fun _ => ?_)
  clear hK K
  try simp only [Act.put, List.setIfInBounds_toArray, List.set_cons_zero, List.set_cons_succ]
  by_cases hz : z = 0
  case neg =>
    have t1 : ((z : Int) == 0) = false := by simp; omega
    have HR := Lib.hid (show R = false by rw [HI.out, if_neg hz])
    clear hz
    refine wpAnyH_take (i := 4) (v := ?_) (oper_at (r := _) rfl) (by kernel_rfl) (by kernel_rfl) (by kernel_rfl) (fun _ _ _ h => h) (Or.inl ⟨by rfl, ?_⟩) (by assumption) ?_
    rotate_left
    · intro w hSw; try dsimp only at hSw
      go_simp
      try with_reducible rfl
    try simp only [Act.put, List.setIfInBounds_toArray, List.set_cons_zero, List.set_cons_succ]
    refine wpAnyH_take (i := 5) (v := ?_) (oper_at (r := _) rfl) (by kernel_rfl) (by kernel_rfl) (by kernel_rfl) (fun _ _ _ h => h) (Or.inl ⟨by rfl, ?_⟩) (by assumption) ?_
    rotate_left
    · intro w hSw; try dsimp only at hSw
      go_simp
      try with_reducible rfl
    try simp only [Act.put, List.setIfInBounds_toArray, List.set_cons_zero, List.set_cons_succ]
    refine wpAnyH_take (i := 6) (v := undef) (oper_at (r := _) rfl) (by kernel_rfl) (by kernel_rfl) (by kernel_rfl) (fun _ _ _ h => h) (Or.inr ⟨by rfl, rfl⟩) (by assumption) ?_
    try simp only [Act.put, List.setIfInBounds_toArray, List.set_cons_zero, List.set_cons_succ]
    refine wpAnyH_take (i := 7) (v := undef) (oper_at (r := _) rfl) (by kernel_rfl) (by kernel_rfl) (by kernel_rfl) (fun _ _ _ h => h) (Or.inr ⟨by rfl, rfl⟩) (by assumption) ?_
    try simp only [Act.put, List.setIfInBounds_toArray, List.set_cons_zero, List.set_cons_succ]
    refine wpAnyH_take (i := 9) (v := undef) (oper_at (r := _) rfl) (by kernel_rfl) (by kernel_rfl) (by kernel_rfl) (fun _ _ _ h => h) (Or.inr ⟨by rfl, rfl⟩) (by assumption) ?_
    try simp only [Act.put, List.setIfInBounds_toArray, List.set_cons_zero, List.set_cons_succ]
    refine wpAnyH_take (i := 10) (v := undef) (oper_at (r := _) rfl) (by kernel_rfl) (by kernel_rfl) (by kernel_rfl) (fun _ _ _ h => h) (Or.inr ⟨by rfl, rfl⟩) (by assumption) ?_
    try simp only [Act.put, List.setIfInBounds_toArray, List.set_cons_zero, List.set_cons_succ]
    refine wpAnyH_take (i := 11) (v := undef) (oper_at (r := _) rfl) (by kernel_rfl) (by kernel_rfl) (by kernel_rfl) (fun _ _ _ h => h) (Or.inr ⟨by rfl, rfl⟩) (by assumption) ?_
    try simp only [Act.put, List.setIfInBounds_toArray, List.set_cons_zero, List.set_cons_succ]
    refine wpAnyH_ready (rs := [8]) (by kernel_rfl) (by simp) ?_
    refine AllReadyH.cons (oper_at (r := _) rfl) (fun K hK => ?_) AllReadyH.nil
    rw [if_neg (by rw [show Region.wanted _ _ = false from rfl]; exact Bool.false_ne_true)]
    refine hK.out _ _ (HS2.out) (fun _ => ?_)
    clear hK K
    try simp only [Act.put, List.setIfInBounds_toArray, List.set_cons_zero, List.set_cons_succ]
    refine wpAnyH_take (i := 12) (v := undef) (oper_at (r := _) rfl) (by kernel_rfl) (by kernel_rfl) (by kernel_rfl) (fun _ _ _ h => h) (Or.inr ⟨by rfl, rfl⟩) (by assumption) ?_
    try simp only [Act.put, List.setIfInBounds_toArray, List.set_cons_zero, List.set_cons_succ]
    refine wpAnyH_take (i := 13) (v := ?_) (oper_at (r := _) rfl) (by kernel_rfl) (by kernel_rfl) (by kernel_rfl) (fun _ _ _ h => h) (Or.inl ⟨by rfl, ?_⟩) (by assumption) ?_
    rotate_left
    · intro w hSw; try dsimp only at hSw
      go_simp
      try with_reducible rfl
    try simp only [Act.put, List.setIfInBounds_toArray, List.set_cons_zero, List.set_cons_succ]
    refine wpAnyH_take (i := 14) (v := ?_) (oper_at (r := _) rfl) (by kernel_rfl) (by kernel_rfl) (by kernel_rfl) (fun _ _ _ h => h) (Or.inl ⟨by rfl, ?_⟩) (by assumption) ?_
    rotate_left
    · intro w hSw; try dsimp only at hSw
      go_simp
      try with_reducible rfl
    try simp only [Act.put, List.setIfInBounds_toArray, List.set_cons_zero, List.set_cons_succ]
    refine wpAnyH_take (i := 15) (v := undef) (oper_at (r := _) rfl) (by kernel_rfl) (by kernel_rfl) (by kernel_rfl) (fun _ _ _ h => h) (Or.inr ⟨by rfl, rfl⟩) (by assumption) ?_
    try simp only [Act.put, List.setIfInBounds_toArray, List.set_cons_zero, List.set_cons_succ]
    refine wpAnyH_take (i := 16) (v := undef) (oper_at (r := _) rfl) (by kernel_rfl) (by kernel_rfl) (by kernel_rfl) (fun _ _ _ h => h) (Or.inr ⟨by rfl, rfl⟩) (by assumption) ?_
    try simp only [Act.put, List.setIfInBounds_toArray, List.set_cons_zero, List.set_cons_succ]
    refine wpAnyH_take (i := 18) (v := undef) (oper_at (r := _) rfl) (by kernel_rfl) (by kernel_rfl) (by kernel_rfl) (fun _ _ _ h => h) (Or.inr ⟨by rfl, rfl⟩) (by assumption) ?_
    try simp only [Act.put, List.setIfInBounds_toArray, List.set_cons_zero, List.set_cons_succ]
    refine wpAnyH_take (i := 19) (v := undef) (oper_at (r := _) rfl) (by kernel_rfl) (by kernel_rfl) (by kernel_rfl) (fun _ _ _ h => h) (Or.inr ⟨by rfl, rfl⟩) (by assumption) ?_
    try simp only [Act.put, List.setIfInBounds_toArray, List.set_cons_zero, List.set_cons_succ]
    refine wpAnyH_take (i := 20) (v := undef) (oper_at (r := _) rfl) (by kernel_rfl) (by kernel_rfl) (by kernel_rfl) (fun _ _ _ h => h) (Or.inr ⟨by rfl, rfl⟩) (by assumption) ?_
    try simp only [Act.put, List.setIfInBounds_toArray, List.set_cons_zero, List.set_cons_succ]
    refine wpAnyH_ready (rs := [17]) (by kernel_rfl) (by simp) ?_
    refine AllReadyH.cons (oper_at (r := _) rfl) (fun K hK => ?_) AllReadyH.nil
    rw [if_neg (by rw [show Region.wanted _ _ = false from rfl]; exact Bool.false_ne_true)]
    refine hK.out _ _ (HS2.out) (fun _ => ?_)
    clear hK K
    try simp only [Act.put, List.setIfInBounds_toArray, List.set_cons_zero, List.set_cons_succ]
    refine wpAnyH_take (i := 21) (v := undef) (oper_at (r := _) rfl) (by kernel_rfl) (by kernel_rfl) (by kernel_rfl) (fun _ _ _ h => h) (Or.inr ⟨by rfl, rfl⟩) (by assumption) ?_
    try simp only [Act.put, List.setIfInBounds_toArray, List.set_cons_zero, List.set_cons_succ]
    refine wpAnyH_take (i := 22) (v := ?_) (oper_at (r := _) rfl) (by kernel_rfl) (by kernel_rfl) (by kernel_rfl) (fun _ _ _ h => h) (Or.inl ⟨by rfl, ?_⟩) (by assumption) ?_
    rotate_left
    · intro w hSw; try dsimp only at hSw
      go_simp
      try with_reducible rfl
    try simp only [Act.put, List.setIfInBounds_toArray, List.set_cons_zero, List.set_cons_succ]
    refine wpAnyH_take (i := 23) (v := ?_) (oper_at (r := _) rfl) (by kernel_rfl) (by kernel_rfl) (by kernel_rfl) (fun _ _ _ h => h) (Or.inl ⟨by rfl, ?_⟩) (by assumption) ?_
    rotate_left
    · intro w hSw; try dsimp only at hSw
      go_simp
      try with_reducible rfl
    try simp only [Act.put, List.setIfInBounds_toArray, List.set_cons_zero, List.set_cons_succ]
    refine wpAnyH_done (by kernel_rfl) ?_ _
    refine NoPanic.normal ?_
    go_wp2_with fail
    go_ret
    exact ⟨ret_bool (by rw [HR.out]), HSR2.out.1⟩
  subst hz
  have HX := Lib.hid (show R = (((k1 : Int) == (a.ns.length : Int)) && ((k2 : Int) == (a.es.length : Int))) by rw [HI.out, if_pos rfl])
  clear HI
  refine wpAnyH_take (i := 4) (v := ?_) (oper_at (r := _) rfl) (by kernel_rfl) (by kernel_rfl) (by kernel_rfl) (fun _ _ _ h => h) (Or.inl ⟨by rfl, ?_⟩) (by assumption) ?_
  rotate_left
  · intro w hSw; try dsimp only at hSw
    go_simp
    try with_reducible rfl
  try simp only [Act.put, List.setIfInBounds_toArray, List.set_cons_zero, List.set_cons_succ]
  refine wpAnyH_take (i := 5) (v := ?_) (oper_at (r := _) rfl) (by kernel_rfl) (by kernel_rfl) (by kernel_rfl) (fun _ _ _ h => h) (Or.inl ⟨by rfl, ?_⟩) (by assumption) ?_
  rotate_left
  · intro w hSw; try dsimp only at hSw
    go_simp
    try with_reducible rfl
  try simp only [Act.put, List.setIfInBounds_toArray, List.set_cons_zero, List.set_cons_succ]
  refine wpAnyH_take (i := 6) (v := ?_) (oper_at (r := _) rfl) (by kernel_rfl) (by kernel_rfl) (by kernel_rfl) (fun _ _ _ h => h) (Or.inl ⟨by rfl, ?_⟩) (by assumption) ?_
  rotate_left
  · intro w hSw; try dsimp only at hSw
    go_simp
    try with_reducible rfl
  try simp only [Act.put, List.setIfInBounds_toArray, List.set_cons_zero, List.set_cons_succ]
  refine wpAnyH_take (i := 7) (v := ?_) (oper_at (r := _) rfl) (by kernel_rfl) (by kernel_rfl) (by kernel_rfl) (fun _ _ _ h => h) (Or.inl ⟨by rfl, ?_⟩) (by assumption) ?_
  rotate_left
  · intro w hSw; try dsimp only at hSw
    go_simp
    try with_reducible rfl
  try simp only [Act.put, List.setIfInBounds_toArray, List.set_cons_zero, List.set_cons_succ]
  refine wpAnyH_take (i := 9) (v := ?_) (oper_at (r := _) rfl) (by kernel_rfl) (by kernel_rfl) (by kernel_rfl) (fun _ _ _ h => h) (Or.inl ⟨by rfl, ?_⟩) (by assumption) ?_
  rotate_left
  · intro w hSw; try dsimp only at hSw
    go_simp
    try with_reducible rfl
  try simp only [Act.put, List.setIfInBounds_toArray, List.set_cons_zero, List.set_cons_succ]
  refine wpAnyH_take (i := 10) (v := ?_) (oper_at (r := _) rfl) (by kernel_rfl) (by kernel_rfl) (by kernel_rfl) (fun _ _ _ h => h) (Or.inl ⟨by rfl, ?_⟩) (by assumption) ?_
  rotate_left
  · intro w hSw; try dsimp only at hSw
    go_simp
    try with_reducible rfl
  try simp only [Act.put, List.setIfInBounds_toArray, List.set_cons_zero, List.set_cons_succ]
  refine wpAnyH_take (i := 11) (v := ?_) (oper_at (r := _) rfl) (by kernel_rfl) (by kernel_rfl) (by kernel_rfl) (fun _ _ _ h => h) (Or.inl ⟨by rfl, ?_⟩) (by assumption) ?_
  rotate_left
  · intro w hSw; try dsimp only at hSw
    go_simp
    try with_reducible rfl
  try simp only [Act.put, List.setIfInBounds_toArray, List.set_cons_zero, List.set_cons_succ]
  refine wpAnyH_ready (rs := [8]) (by kernel_rfl) (by simp) ?_
  refine AllReadyH.cons (oper_at (r := _) rfl) (fun K hK => ?_) AllReadyH.nil
  go_simp
  refine (HC1.out _ HSR2.out.1).mono ?_
  rintro e w3 ⟨rfl, hb3⟩
  have HS3 := Lib.hid (HUP.out _ _ HS2.out hb3)
  have HSR3 := Lib.hid (HSR2.out.up hb3)
  clear hb3
  go_wp2_with fail
  refine hK.out _ _ (HS3.out) (fun _ => ?_)
  clear hK K
  try simp only [Act.put, List.setIfInBounds_toArray, List.set_cons_zero, List.set_cons_succ]
  cases ht : ((k1 : Int) == (a.ns.length : Int))
  case false =>
    have HR := Lib.hid (show R = false by rw [HX.out, ht]; rfl)
    refine wpAnyH_take (i := 12) (v := ?_) (oper_at (r := _) rfl) (by kernel_rfl) (by kernel_rfl) (by kernel_rfl) (fun _ _ _ h => h) (Or.inl ⟨by rfl, ?_⟩) (by assumption) ?_
    rotate_left
    · intro w hSw; try dsimp only at hSw
      go_simp
      try with_reducible rfl
    try simp only [Act.put, List.setIfInBounds_toArray, List.set_cons_zero, List.set_cons_succ]
    refine wpAnyH_take (i := 13) (v := ?_) (oper_at (r := _) rfl) (by kernel_rfl) (by kernel_rfl) (by kernel_rfl) (fun _ _ _ h => h) (Or.inl ⟨by rfl, ?_⟩) (by assumption) ?_
    rotate_left
    · intro w hSw; try dsimp only at hSw
      go_simp
      try with_reducible rfl
    try simp only [Act.put, List.setIfInBounds_toArray, List.set_cons_zero, List.set_cons_succ]
    refine wpAnyH_take (i := 14) (v := ?_) (oper_at (r := _) rfl) (by kernel_rfl) (by kernel_rfl) (by kernel_rfl) (fun _ _ _ h => h) (Or.inl ⟨by rfl, ?_⟩) (by assumption) ?_
    rotate_left
    · intro w hSw; try dsimp only at hSw
      go_simp
      try with_reducible rfl
    try simp only [Act.put, List.setIfInBounds_toArray, List.set_cons_zero, List.set_cons_succ]
    refine wpAnyH_take (i := 15) (v := undef) (oper_at (r := _) rfl) (by kernel_rfl) (by kernel_rfl) (by kernel_rfl) (fun _ _ _ h => h) (Or.inr ⟨by rfl, rfl⟩) (by assumption) ?_
    try simp only [Act.put, List.setIfInBounds_toArray, List.set_cons_zero, List.set_cons_succ]
    refine wpAnyH_take (i := 16) (v := undef) (oper_at (r := _) rfl) (by kernel_rfl) (by kernel_rfl) (by kernel_rfl) (fun _ _ _ h => h) (Or.inr ⟨by rfl, rfl⟩) (by assumption) ?_
    try simp only [Act.put, List.setIfInBounds_toArray, List.set_cons_zero, List.set_cons_succ]
    refine wpAnyH_take (i := 18) (v := undef) (oper_at (r := _) rfl) (by kernel_rfl) (by kernel_rfl) (by kernel_rfl) (fun _ _ _ h => h) (Or.inr ⟨by rfl, rfl⟩) (by assumption) ?_
    try simp only [Act.put, List.setIfInBounds_toArray, List.set_cons_zero, List.set_cons_succ]
    refine wpAnyH_take (i := 19) (v := undef) (oper_at (r := _) rfl) (by kernel_rfl) (by kernel_rfl) (by kernel_rfl) (fun _ _ _ h => h) (Or.inr ⟨by rfl, rfl⟩) (by assumption) ?_
    try simp only [Act.put, List.setIfInBounds_toArray, List.set_cons_zero, List.set_cons_succ]
    refine wpAnyH_take (i := 20) (v := undef) (oper_at (r := _) rfl) (by kernel_rfl) (by kernel_rfl) (by kernel_rfl) (fun _ _ _ h => h) (Or.inr ⟨by rfl, rfl⟩) (by assumption) ?_
    try simp only [Act.put, List.setIfInBounds_toArray, List.set_cons_zero, List.set_cons_succ]
    refine wpAnyH_ready (rs := [17]) (by kernel_rfl) (by simp) ?_
    refine AllReadyH.cons (oper_at (r := _) rfl) (fun K hK => ?_) AllReadyH.nil
    rw [if_neg (by rw [show Region.wanted _ _ = false from rfl]; exact Bool.false_ne_true)]
    refine hK.out _ _ (HS3.out) (fun _ => ?_)
    clear hK K
    try simp only [Act.put, List.setIfInBounds_toArray, List.set_cons_zero, List.set_cons_succ]
    refine wpAnyH_take (i := 21) (v := undef) (oper_at (r := _) rfl) (by kernel_rfl) (by kernel_rfl) (by kernel_rfl) (fun _ _ _ h => h) (Or.inr ⟨by rfl, rfl⟩) (by assumption) ?_
    try simp only [Act.put, List.setIfInBounds_toArray, List.set_cons_zero, List.set_cons_succ]
    refine wpAnyH_take (i := 22) (v := ?_) (oper_at (r := _) rfl) (by kernel_rfl) (by kernel_rfl) (by kernel_rfl) (fun _ _ _ h => h) (Or.inl ⟨by rfl, ?_⟩) (by assumption) ?_
    rotate_left
    · intro w hSw; try dsimp only at hSw
      go_simp
      try with_reducible rfl
    try simp only [Act.put, List.setIfInBounds_toArray, List.set_cons_zero, List.set_cons_succ]
    refine wpAnyH_take (i := 23) (v := ?_) (oper_at (r := _) rfl) (by kernel_rfl) (by kernel_rfl) (by kernel_rfl) (fun _ _ _ h => h) (Or.inl ⟨by rfl, ?_⟩) (by assumption) ?_
    rotate_left
    · intro w hSw; try dsimp only at hSw
      go_simp
      try with_reducible rfl
    try simp only [Act.put, List.setIfInBounds_toArray, List.set_cons_zero, List.set_cons_succ]
    refine wpAnyH_done (by kernel_rfl) ?_ _
    refine NoPanic.normal ?_
    go_wp2_with fail
    go_ret
    exact ⟨ret_bool (by rw [HR.out]), HSR3.out.1⟩
  have HX2 := Lib.hid (show R = ((k2 : Int) == (a.es.length : Int)) by rw [HX.out, ht]; rfl)
  clear HX
  refine wpAnyH_take (i := 12) (v := ?_) (oper_at (r := _) rfl) (by kernel_rfl) (by kernel_rfl) (by kernel_rfl) (fun _ _ _ h => h) (Or.inl ⟨by rfl, ?_⟩) (by assumption) ?_
  rotate_left
  · intro w hSw; try dsimp only at hSw
    go_simp
    try with_reducible rfl
  try simp only [Act.put, List.setIfInBounds_toArray, List.set_cons_zero, List.set_cons_succ]
  refine wpAnyH_take (i := 13) (v := ?_) (oper_at (r := _) rfl) (by kernel_rfl) (by kernel_rfl) (by kernel_rfl) (fun _ _ _ h => h) (Or.inl ⟨by rfl, ?_⟩) (by assumption) ?_
  rotate_left
  · intro w hSw; try dsimp only at hSw
    go_simp
    try with_reducible rfl
  try simp only [Act.put, List.setIfInBounds_toArray, List.set_cons_zero, List.set_cons_succ]
  refine wpAnyH_take (i := 14) (v := ?_) (oper_at (r := _) rfl) (by kernel_rfl) (by kernel_rfl) (by kernel_rfl) (fun _ _ _ h => h) (Or.inl ⟨by rfl, ?_⟩) (by assumption) ?_
  rotate_left
  · intro w hSw; try dsimp only at hSw
    go_simp
    try with_reducible rfl
  try simp only [Act.put, List.setIfInBounds_toArray, List.set_cons_zero, List.set_cons_succ]
  refine wpAnyH_take (i := 15) (v := ?_) (oper_at (r := _) rfl) (by kernel_rfl) (by kernel_rfl) (by kernel_rfl) (fun _ _ _ h => h) (Or.inl ⟨by rfl, ?_⟩) (by assumption) ?_
  rotate_left
  · intro w hSw; try dsimp only at hSw
    go_simp
    try with_reducible rfl
  try simp only [Act.put, List.setIfInBounds_toArray, List.set_cons_zero, List.set_cons_succ]
  refine wpAnyH_take (i := 16) (v := ?_) (oper_at (r := _) rfl) (by kernel_rfl) (by kernel_rfl) (by kernel_rfl) (fun _ _ _ h => h) (Or.inl ⟨by rfl, ?_⟩) (by assumption) ?_
  rotate_left
  · intro w hSw; try dsimp only at hSw
    go_simp
    try with_reducible rfl
  try simp only [Act.put, List.setIfInBounds_toArray, List.set_cons_zero, List.set_cons_succ]
  refine wpAnyH_take (i := 18) (v := ?_) (oper_at (r := _) rfl) (by kernel_rfl) (by kernel_rfl) (by kernel_rfl) (fun _ _ _ h => h) (Or.inl ⟨by rfl, ?_⟩) (by assumption) ?_
  rotate_left
  · intro w hSw; try dsimp only at hSw
    go_simp
    try with_reducible rfl
  try simp only [Act.put, List.setIfInBounds_toArray, List.set_cons_zero, List.set_cons_succ]
  refine wpAnyH_take (i := 19) (v := ?_) (oper_at (r := _) rfl) (by kernel_rfl) (by kernel_rfl) (by kernel_rfl) (fun _ _ _ h => h) (Or.inl ⟨by rfl, ?_⟩) (by assumption) ?_
  rotate_left
  · intro w hSw; try dsimp only at hSw
    go_simp
    try with_reducible rfl
  try simp only [Act.put, List.setIfInBounds_toArray, List.set_cons_zero, List.set_cons_succ]
  refine wpAnyH_take (i := 20) (v := ?_) (oper_at (r := _) rfl) (by kernel_rfl) (by kernel_rfl) (by kernel_rfl) (fun _ _ _ h => h) (Or.inl ⟨by rfl, ?_⟩) (by assumption) ?_
  rotate_left
  · intro w hSw; try dsimp only at hSw
    go_simp
    try with_reducible rfl
  try simp only [Act.put, List.setIfInBounds_toArray, List.set_cons_zero, List.set_cons_succ]
  refine wpAnyH_ready (rs := [17]) (by kernel_rfl) (by simp) ?_
  refine AllReadyH.cons (oper_at (r := _) rfl) (fun K hK => ?_) AllReadyH.nil
  go_simp
  refine (HC2.out _ HSR3.out.1).mono ?_
  rintro e w4 ⟨rfl, hb4⟩
  have HS4 := Lib.hid (HUP.out _ _ HS3.out hb4)
  have HSR4 := Lib.hid (HSR3.out.up hb4)
  clear hb4
  go_wp2_with fail
  refine hK.out _ _ (HS4.out) (fun _ => ?_)
  clear hK K
  try simp only [Act.put, List.setIfInBounds_toArray, List.set_cons_zero, List.set_cons_succ]
  refine wpAnyH_take (i := 21) (v := ?_) (oper_at (r := _) rfl) (by kernel_rfl) (by kernel_rfl) (by kernel_rfl) (fun _ _ _ h => h) (Or.inl ⟨by rfl, ?_⟩) (by assumption) ?_
  rotate_left
  · intro w hSw; try dsimp only at hSw
    go_simp
    try with_reducible rfl
  try simp only [Act.put, List.setIfInBounds_toArray, List.set_cons_zero, List.set_cons_succ]
  refine wpAnyH_take (i := 22) (v := ?_) (oper_at (r := _) rfl) (by kernel_rfl) (by kernel_rfl) (by kernel_rfl) (fun _ _ _ h => h) (Or.inl ⟨by rfl, ?_⟩) (by assumption) ?_
  rotate_left
  · intro w hSw; try dsimp only at hSw
    go_simp
    try with_reducible rfl
  try simp only [Act.put, List.setIfInBounds_toArray, List.set_cons_zero, List.set_cons_succ]
  refine wpAnyH_take (i := 23) (v := ?_) (oper_at (r := _) rfl) (by kernel_rfl) (by kernel_rfl) (by kernel_rfl) (fun _ _ _ h => h) (Or.inl ⟨by rfl, ?_⟩) (by assumption) ?_
  rotate_left
  · intro w hSw; try dsimp only at hSw
    go_simp
    try with_reducible rfl
  try simp only [Act.put, List.setIfInBounds_toArray, List.set_cons_zero, List.set_cons_succ]
  refine wpAnyH_done (by kernel_rfl) ?_ _
  refine NoPanic.normal ?_
  go_wp2_with fail
  go_ret
  exact ⟨ret_bool (by rw [HX2.out]), HSR4.out.1⟩

set_option maxRecDepth 100000 in
set_option maxHeartbeats 4000000 in
theorem surM_any (a b : Gr) (m : Mo) (An : Option Addr) (cn : Nat) (Ae : Option Addr) (ce : Nat) (Bn : Option Addr) (dn : Nat) (Be : Option Addr) (de : Nat) (Mn : Option Addr) (mn : Nat) (Me : Option Addr) (me : Nat) (w : World) (hTa : GrAt w An cn Ae ce a) (hTb : GrAt w Bn dn Be de b) (hm1 : Ints w w.heap.size Mn m.ns) (hm2 : Ints w w.heap.size Me m.es) (lm1 : m.ns.length ≤ 1000) (lm2 : m.es.length ≤ 1000) :
    Calls Tryd.prog 17 #[gval An a.ns.length cn Ae a.es.length ce, gval Bn b.ns.length dn Be b.es.length de, gval Mn m.ns.length mn Me m.es.length me] w fun e w' => e = .returned (.bool (surB a b m)) ∧ Below w.heap.size w w' := by
  have hS0 : SR w _ (((w.alloc (.cells #[.slice An a.ns.length cn, .slice Ae a.es.length ce] 25)).alloc (.cells #[.slice Bn b.ns.length dn, .slice Be b.es.length de] 25)).alloc (.cells #[.slice Mn m.ns.length mn, .slice Me m.es.length me] 27)) := SR.push (SR.push (SR.push (SR.nil w) rfl _ _ _) (by simp) _ _ _) (by simp) _ _ _
  have HV := Lib.hid (fun (u : World) (hu : Below w.heap.size w u) => validM_any a b m An cn Ae ce Bn dn Be de Mn mn Me me u (hTa.up hu) (hTb.up hu) (Reads.up hm1 hu) (Reads.up hm2 hu) lm1 lm2)
  have HC1 := Lib.hid (fun (u : World) (hu : Below w.heap.size w u) => countImages_any m.ns Mn mn u lm1 (Reads.up hm1 hu))
  have HC2 := Lib.hid (fun (u : World) (hu : Below w.heap.size w u) => countImages_any m.es Me me u lm2 (Reads.up hm2 hu))
  have HI := Lib.hid (surB_cnt a b m)
  have HS0 := Lib.hid hS0
  clear hTa hTb hm1 hm2 hS0
  generalize surB a b m = R at HI ⊢
  generalize morE a b m = z at *
  generalize cntS m.ns = k1 at *
  generalize cntS m.es = k2 at *
  go_enter Tryd.func17, Tryd.ntmps17
  go_wp2_with fail
  generalize hw1 : (((w.alloc (.cells #[.slice An a.ns.length cn, .slice Ae a.es.length ce] 25)).alloc (.cells #[.slice Bn b.ns.length dn, .slice Be b.es.length de] 25)).alloc (.cells #[.slice Mn m.ns.length mn, .slice Me m.es.length me] 27)) = w1 at *
  clear hw1
  have HSd : Hid (SR w _ w1.drew) := Lib.hid (HS0.out.up (below_d _))
  obtain ⟨c0x, c0y⟩ := HSd.out.cell (i := 0) rfl
  obtain ⟨c1x, c1y⟩ := HSd.out.cell (i := 1) rfl
  obtain ⟨c2x, c2y⟩ := HSd.out.cell (i := 2) rfl
  simp only [Nat.add_zero] at c0x c0y
  have HS1 : Hid ((fun u : World => u.cell? ⟨w.heap.size, 0, none⟩ = some (.slice An a.ns.length cn) ∧ u.cell? ⟨w.heap.size, 1, none⟩ = some (.slice Ae a.es.length ce) ∧ u.cell? ⟨w.heap.size + 1, 0, none⟩ = some (.slice Bn b.ns.length dn) ∧ u.cell? ⟨w.heap.size + 1, 1, none⟩ = some (.slice Be b.es.length de) ∧ u.cell? ⟨w.heap.size + 1 + 1, 0, none⟩ = some (.slice Mn m.ns.length mn) ∧ u.cell? ⟨w.heap.size + 1 + 1, 1, none⟩ = some (.slice Me m.es.length me)) w1.drew) := Lib.hid ⟨c0x, c0y, c1x, c1y, c2x, c2y⟩
  have HUP : Hid (∀ u u', (fun u : World => u.cell? ⟨w.heap.size, 0, none⟩ = some (.slice An a.ns.length cn) ∧ u.cell? ⟨w.heap.size, 1, none⟩ = some (.slice Ae a.es.length ce) ∧ u.cell? ⟨w.heap.size + 1, 0, none⟩ = some (.slice Bn b.ns.length dn) ∧ u.cell? ⟨w.heap.size + 1, 1, none⟩ = some (.slice Be b.es.length de) ∧ u.cell? ⟨w.heap.size + 1 + 1, 0, none⟩ = some (.slice Mn m.ns.length mn) ∧ u.cell? ⟨w.heap.size + 1 + 1, 1, none⟩ = some (.slice Me m.es.length me)) u → Below u.heap.size u u' → (fun u : World => u.cell? ⟨w.heap.size, 0, none⟩ = some (.slice An a.ns.length cn) ∧ u.cell? ⟨w.heap.size, 1, none⟩ = some (.slice Ae a.es.length ce) ∧ u.cell? ⟨w.heap.size + 1, 0, none⟩ = some (.slice Bn b.ns.length dn) ∧ u.cell? ⟨w.heap.size + 1, 1, none⟩ = some (.slice Be b.es.length de) ∧ u.cell? ⟨w.heap.size + 1 + 1, 0, none⟩ = some (.slice Mn m.ns.length mn) ∧ u.cell? ⟨w.heap.size + 1 + 1, 1, none⟩ = some (.slice Me m.es.length me)) u') := Lib.hid fun u u' h hb => ⟨cell_up hb (h.1), cell_up hb (h.2.1), cell_up hb (h.2.2.1), cell_up hb (h.2.2.2.1), cell_up hb (h.2.2.2.2.1), cell_up hb (h.2.2.2.2.2)⟩
  clear c0x c0y c1x c1y c2x c2y HS0
  refine wp_region_noPanic ?_
  refine wp_region_held_drew (S := (fun u : World => u.cell? ⟨w.heap.size, 0, none⟩ = some (.slice An a.ns.length cn) ∧ u.cell? ⟨w.heap.size, 1, none⟩ = some (.slice Ae a.es.length ce) ∧ u.cell? ⟨w.heap.size + 1, 0, none⟩ = some (.slice Bn b.ns.length dn) ∧ u.cell? ⟨w.heap.size + 1, 1, none⟩ = some (.slice Be b.es.length de) ∧ u.cell? ⟨w.heap.size + 1 + 1, 0, none⟩ = some (.slice Mn m.ns.length mn) ∧ u.cell? ⟨w.heap.size + 1 + 1, 1, none⟩ = some (.slice Me m.es.length me))) (by kernel_rfl) (HS1.out) (fun hHeld => ?_)
  refine wpAnyH_take (i := 0) (v := ?_) (oper_at (r := _) rfl) (by kernel_rfl) (by kernel_rfl) (by kernel_rfl) (fun _ _ _ h => h) (Or.inl ⟨by rfl, ?_⟩) (by assumption) ?_
  rotate_left
  · intro w hSw; try dsimp only at hSw
    go_simp
    try with_reducible rfl
  try simp only [Act.put, List.setIfInBounds_toArray, List.set_cons_zero, List.set_cons_succ]
  refine wpAnyH_take (i := 1) (v := ?_) (oper_at (r := _) rfl) (by kernel_rfl) (by kernel_rfl) (by kernel_rfl) (fun _ _ _ h => h) (Or.inl ⟨by rfl, ?_⟩) (by assumption) ?_
  rotate_left
  · intro w hSw; try dsimp only at hSw
    go_simp
    try with_reducible rfl
  try simp only [Act.put, List.setIfInBounds_toArray, List.set_cons_zero, List.set_cons_succ]
  refine wpAnyH_take (i := 2) (v := ?_) (oper_at (r := _) rfl) (by kernel_rfl) (by kernel_rfl) (by kernel_rfl) (fun _ _ _ h => h) (Or.inl ⟨by rfl, ?_⟩) (by assumption) ?_
  rotate_left
  · intro w hSw; try dsimp only at hSw
    go_simp
    try with_reducible rfl
  try simp only [Act.put, List.setIfInBounds_toArray, List.set_cons_zero, List.set_cons_succ]
  refine wpAnyH_ready (rs := [3]) (by kernel_rfl) (by simp) ?_
  refine AllReadyH.cons (oper_at (r := _) rfl) (fun K hK => ?_) AllReadyH.nil
  go_simp
  refine (HV.out _ HSd.out.1).mono ?_
  rintro e w2 ⟨rfl, hb2⟩
  have HS2 := Lib.hid (HUP.out _ _ HS1.out hb2)
  have HSR2 := Lib.hid (HSd.out.up hb2)
  clear hb2
  go_wp2_with fail
  refine hK.out _ _ (HS2.out) (fun _ => ?_)
  clear hK K
  try simp only [Act.put, List.setIfInBounds_toArray, List.set_cons_zero, List.set_cons_succ]
  by_cases hz : z = 0
  case neg =>
    have t1 : ((z : Int) == 0) = false := by simp; omega
    have HR := Lib.hid (show R = false by rw [HI.out, if_neg hz])
    clear hz
    refine wpAnyH_take (i := 4) (v := ?_) (oper_at (r := _) rfl) (by kernel_rfl) (by kernel_rfl) (by kernel_rfl) (fun _ _ _ h => h) (Or.inl ⟨by rfl, ?_⟩) (by assumption) ?_
    rotate_left
    · intro w hSw; try dsimp only at hSw
      go_simp
      try with_reducible rfl
    try simp only [Act.put, List.setIfInBounds_toArray, List.set_cons_zero, List.set_cons_succ]
    refine wpAnyH_take (i := 5) (v := ?_) (oper_at (r := _) rfl) (by kernel_rfl) (by kernel_rfl) (by kernel_rfl) (fun _ _ _ h => h) (Or.inl ⟨by rfl, ?_⟩) (by assumption) ?_
    rotate_left
    · intro w hSw; try dsimp only at hSw
      go_simp
      try with_reducible rfl
    try simp only [Act.put, List.setIfInBounds_toArray, List.set_cons_zero, List.set_cons_succ]
    refine wpAnyH_take (i := 6) (v := undef) (oper_at (r := _) rfl) (by kernel_rfl) (by kernel_rfl) (by kernel_rfl) (fun _ _ _ h => h) (Or.inr ⟨by rfl, rfl⟩) (by assumption) ?_
    try simp only [Act.put, List.setIfInBounds_toArray, List.set_cons_zero, List.set_cons_succ]
    refine wpAnyH_take (i := 7) (v := undef) (oper_at (r := _) rfl) (by kernel_rfl) (by kernel_rfl) (by kernel_rfl) (fun _ _ _ h => h) (Or.inr ⟨by rfl, rfl⟩) (by assumption) ?_
    try simp only [Act.put, List.setIfInBounds_toArray, List.set_cons_zero, List.set_cons_succ]
    refine wpAnyH_take (i := 9) (v := undef) (oper_at (r := _) rfl) (by kernel_rfl) (by kernel_rfl) (by kernel_rfl) (fun _ _ _ h => h) (Or.inr ⟨by rfl, rfl⟩) (by assumption) ?_
    try simp only [Act.put, List.setIfInBounds_toArray, List.set_cons_zero, List.set_cons_succ]
    refine wpAnyH_take (i := 10) (v := undef) (oper_at (r := _) rfl) (by kernel_rfl) (by kernel_rfl) (by kernel_rfl) (fun _ _ _ h => h) (Or.inr ⟨by rfl, rfl⟩) (by assumption) ?_
    try simp only [Act.put, List.setIfInBounds_toArray, List.set_cons_zero, List.set_cons_succ]
    refine wpAnyH_take (i := 11) (v := undef) (oper_at (r := _) rfl) (by kernel_rfl) (by kernel_rfl) (by kernel_rfl) (fun _ _ _ h => h) (Or.inr ⟨by rfl, rfl⟩) (by assumption) ?_
    try simp only [Act.put, List.setIfInBounds_toArray, List.set_cons_zero, List.set_cons_succ]
    refine wpAnyH_ready (rs := [8]) (by kernel_rfl) (by simp) ?_
    refine AllReadyH.cons (oper_at (r := _) rfl) (fun K hK => ?_) AllReadyH.nil
    rw [if_neg (by rw [show Region.wanted _ _ = false from rfl]; exact Bool.false_ne_true)]
    refine hK.out _ _ (HS2.out) (fun _ => ?_)
    clear hK K
    try simp only [Act.put, List.setIfInBounds_toArray, List.set_cons_zero, List.set_cons_succ]
    refine wpAnyH_take (i := 12) (v := undef) (oper_at (r := _) rfl) (by kernel_rfl) (by kernel_rfl) (by kernel_rfl) (fun _ _ _ h => h) (Or.inr ⟨by rfl, rfl⟩) (by assumption) ?_
    try simp only [Act.put, List.setIfInBounds_toArray, List.set_cons_zero, List.set_cons_succ]
    refine wpAnyH_take (i := 13) (v := ?_) (oper_at (r := _) rfl) (by kernel_rfl) (by kernel_rfl) (by kernel_rfl) (fun _ _ _ h => h) (Or.inl ⟨by rfl, ?_⟩) (by assumption) ?_
    rotate_left
    · intro w hSw; try dsimp only at hSw
      go_simp
      try with_reducible rfl
    try simp only [Act.put, List.setIfInBounds_toArray, List.set_cons_zero, List.set_cons_succ]
    refine wpAnyH_take (i := 14) (v := ?_) (oper_at (r := _) rfl) (by kernel_rfl) (by kernel_rfl) (by kernel_rfl) (fun _ _ _ h => h) (Or.inl ⟨by rfl, ?_⟩) (by assumption) ?_
    rotate_left
    · intro w hSw; try dsimp only at hSw
      go_simp
      try with_reducible rfl
    try simp only [Act.put, List.setIfInBounds_toArray, List.set_cons_zero, List.set_cons_succ]
    refine wpAnyH_take (i := 15) (v := undef) (oper_at (r := _) rfl) (by kernel_rfl) (by kernel_rfl) (by kernel_rfl) (fun _ _ _ h => h) (Or.inr ⟨by rfl, rfl⟩) (by assumption) ?_
    try simp only [Act.put, List.setIfInBounds_toArray, List.set_cons_zero, List.set_cons_succ]
    refine wpAnyH_take (i := 16) (v := undef) (oper_at (r := _) rfl) (by kernel_rfl) (by kernel_rfl) (by kernel_rfl) (fun _ _ _ h => h) (Or.inr ⟨by rfl, rfl⟩) (by assumption) ?_
    try simp only [Act.put, List.setIfInBounds_toArray, List.set_cons_zero, List.set_cons_succ]
    refine wpAnyH_take (i := 18) (v := undef) (oper_at (r := _) rfl) (by kernel_rfl) (by kernel_rfl) (by kernel_rfl) (fun _ _ _ h => h) (Or.inr ⟨by rfl, rfl⟩) (by assumption) ?_
    try simp only [Act.put, List.setIfInBounds_toArray, List.set_cons_zero, List.set_cons_succ]
    refine wpAnyH_take (i := 19) (v := undef) (oper_at (r := _) rfl) (by kernel_rfl) (by kernel_rfl) (by kernel_rfl) (fun _ _ _ h => h) (Or.inr ⟨by rfl, rfl⟩) (by assumption) ?_
    try simp only [Act.put, List.setIfInBounds_toArray, List.set_cons_zero, List.set_cons_succ]
    refine wpAnyH_take (i := 20) (v := undef) (oper_at (r := _) rfl) (by kernel_rfl) (by kernel_rfl) (by kernel_rfl) (fun _ _ _ h => h) (Or.inr ⟨by rfl, rfl⟩) (by assumption) ?_
    try simp only [Act.put, List.setIfInBounds_toArray, List.set_cons_zero, List.set_cons_succ]
    refine wpAnyH_ready (rs := [17]) (by kernel_rfl) (by simp) ?_
    refine AllReadyH.cons (oper_at (r := _) rfl) (fun K hK => ?_) AllReadyH.nil
    rw [if_neg (by rw [show Region.wanted _ _ = false from rfl]; exact Bool.false_ne_true)]
    refine hK.out _ _ (HS2.out) (fun _ => ?_)
    clear hK K
    try simp only [Act.put, List.setIfInBounds_toArray, List.set_cons_zero, List.set_cons_succ]
    refine wpAnyH_take (i := 21) (v := undef) (oper_at (r := _) rfl) (by kernel_rfl) (by kernel_rfl) (by kernel_rfl) (fun _ _ _ h => h) (Or.inr ⟨by rfl, rfl⟩) (by assumption) ?_
    try simp only [Act.put, List.setIfInBounds_toArray, List.set_cons_zero, List.set_cons_succ]
    refine wpAnyH_take (i := 22) (v := ?_) (oper_at (r := _) rfl) (by kernel_rfl) (by kernel_rfl) (by kernel_rfl) (fun _ _ _ h => h) (Or.inl ⟨by rfl, ?_⟩) (by assumption) ?_
    rotate_left
    · intro w hSw; try dsimp only at hSw
      go_simp
      try with_reducible rfl
    try simp only [Act.put, List.setIfInBounds_toArray, List.set_cons_zero, List.set_cons_succ]
    refine wpAnyH_take (i := 23) (v := ?_) (oper_at (r := _) rfl) (by kernel_rfl) (by kernel_rfl) (by kernel_rfl) (fun _ _ _ h => h) (Or.inl ⟨by rfl, ?_⟩) (by assumption) ?_
    rotate_left
    · intro w hSw; try dsimp only at hSw
      go_simp
      try with_reducible rfl
    try simp only [Act.put, List.setIfInBounds_toArray, List.set_cons_zero, List.set_cons_succ]
    refine wpAnyH_done (by kernel_rfl) ?_ _
    refine NoPanic.normal ?_
    go_wp2_with fail
    go_ret
    exact ⟨ret_bool (by rw [HR.out]), HSR2.out.1⟩
  subst hz
  have HX := Lib.hid (show R = (((k1 : Int) == (b.ns.length : Int)) && ((k2 : Int) == (b.es.length : Int))) by rw [HI.out, if_pos rfl])
  clear HI
  refine wpAnyH_take (i := 4) (v := ?_) (oper_at (r := _) rfl) (by kernel_rfl) (by kernel_rfl) (by kernel_rfl) (fun _ _ _ h => h) (Or.inl ⟨by rfl, ?_⟩) (by assumption) ?_
  rotate_left
  · intro w hSw; try dsimp only at hSw
    go_simp
    try with_reducible rfl
  try simp only [Act.put, List.setIfInBounds_toArray, List.set_cons_zero, List.set_cons_succ]
  refine wpAnyH_take (i := 5) (v := ?_) (oper_at (r := _) rfl) (by kernel_rfl) (by kernel_rfl) (by kernel_rfl) (fun _ _ _ h => h) (Or.inl ⟨by rfl, ?_⟩) (by assumption) ?_
  rotate_left
  · intro w hSw; try dsimp only at hSw
    go_simp
    try with_reducible rfl
  try simp only [Act.put, List.setIfInBounds_toArray, List.set_cons_zero, List.set_cons_succ]
  refine wpAnyH_take (i := 6) (v := ?_) (oper_at (r := _) rfl) (by kernel_rfl) (by kernel_rfl) (by kernel_rfl) (fun _ _ _ h => h) (Or.inl ⟨by rfl, ?_⟩) (by assumption) ?_
  rotate_left
  · intro w hSw; try dsimp only at hSw
    go_simp
    try with_reducible rfl
  try simp only [Act.put, List.setIfInBounds_toArray, List.set_cons_zero, List.set_cons_succ]
  refine wpAnyH_take (i := 7) (v := ?_) (oper_at (r := _) rfl) (by kernel_rfl) (by kernel_rfl) (by kernel_rfl) (fun _ _ _ h => h) (Or.inl ⟨by rfl, ?_⟩) (by assumption) ?_
  rotate_left
  · intro w hSw; try dsimp only at hSw
    go_simp
    try with_reducible rfl
  try simp only [Act.put, List.setIfInBounds_toArray, List.set_cons_zero, List.set_cons_succ]
  refine wpAnyH_take (i := 9) (v := ?_) (oper_at (r := _) rfl) (by kernel_rfl) (by kernel_rfl) (by kernel_rfl) (fun _ _ _ h => h) (Or.inl ⟨by rfl, ?_⟩) (by assumption) ?_
  rotate_left
  · intro w hSw; try dsimp only at hSw
    go_simp
    try with_reducible rfl
  try simp only [Act.put, List.setIfInBounds_toArray, List.set_cons_zero, List.set_cons_succ]
  refine wpAnyH_take (i := 10) (v := ?_) (oper_at (r := _) rfl) (by kernel_rfl) (by kernel_rfl) (by kernel_rfl) (fun _ _ _ h => h) (Or.inl ⟨by rfl, ?_⟩) (by assumption) ?_
  rotate_left
  · intro w hSw; try dsimp only at hSw
    go_simp
    try with_reducible rfl
  try simp only [Act.put, List.setIfInBounds_toArray, List.set_cons_zero, List.set_cons_succ]
  refine wpAnyH_take (i := 11) (v := ?_) (oper_at (r := _) rfl) (by kernel_rfl) (by kernel_rfl) (by kernel_rfl) (fun _ _ _ h => h) (Or.inl ⟨by rfl, ?_⟩) (by assumption) ?_
  rotate_left
  · intro w hSw; try dsimp only at hSw
    go_simp
    try with_reducible rfl
  try simp only [Act.put, List.setIfInBounds_toArray, List.set_cons_zero, List.set_cons_succ]
  refine wpAnyH_ready (rs := [8]) (by kernel_rfl) (by simp) ?_
  refine AllReadyH.cons (oper_at (r := _) rfl) (fun K hK => ?_) AllReadyH.nil
  go_simp
  refine (HC1.out _ HSR2.out.1).mono ?_
  rintro e w3 ⟨rfl, hb3⟩
  have HS3 := Lib.hid (HUP.out _ _ HS2.out hb3)
  have HSR3 := Lib.hid (HSR2.out.up hb3)
  clear hb3
  go_wp2_with fail
  refine hK.out _ _ (HS3.out) (fun _ => ?_)
  clear hK K
  try simp only [Act.put, List.setIfInBounds_toArray, List.set_cons_zero, List.set_cons_succ]
  cases ht : ((k1 : Int) == (b.ns.length : Int))
  case false =>
    have HR := Lib.hid (show R = false by rw [HX.out, ht]; rfl)
    refine wpAnyH_take (i := 12) (v := ?_) (oper_at (r := _) rfl) (by kernel_rfl) (by kernel_rfl) (by kernel_rfl) (fun _ _ _ h => h) (Or.inl ⟨by rfl, ?_⟩) (by assumption) ?_
    rotate_left
    · intro w hSw; try dsimp only at hSw
      go_simp
      try with_reducible rfl
    try simp only [Act.put, List.setIfInBounds_toArray, List.set_cons_zero, List.set_cons_succ]
    refine wpAnyH_take (i := 13) (v := ?_) (oper_at (r := _) rfl) (by kernel_rfl) (by kernel_rfl) (by kernel_rfl) (fun _ _ _ h => h) (Or.inl ⟨by rfl, ?_⟩) (by assumption) ?_
    rotate_left
    · intro w hSw; try dsimp only at hSw
      go_simp
      try with_reducible rfl
    try simp only [Act.put, List.setIfInBounds_toArray, List.set_cons_zero, List.set_cons_succ]
    refine wpAnyH_take (i := 14) (v := ?_) (oper_at (r := _) rfl) (by kernel_rfl) (by kernel_rfl) (by kernel_rfl) (fun _ _ _ h => h) (Or.inl ⟨by rfl, ?_⟩) (by assumption) ?_
    rotate_left
    · intro w hSw; try dsimp only at hSw
      go_simp
      try with_reducible rfl
    try simp only [Act.put, List.setIfInBounds_toArray, List.set_cons_zero, List.set_cons_succ]
    refine wpAnyH_take (i := 15) (v := undef) (oper_at (r := _) rfl) (by kernel_rfl) (by kernel_rfl) (by kernel_rfl) (fun _ _ _ h => h) (Or.inr ⟨by rfl, rfl⟩) (by assumption) ?_
    try simp only [Act.put, List.setIfInBounds_toArray, List.set_cons_zero, List.set_cons_succ]
    refine wpAnyH_take (i := 16) (v := undef) (oper_at (r := _) rfl) (by kernel_rfl) (by kernel_rfl) (by kernel_rfl) (fun _ _ _ h => h) (Or.inr ⟨by rfl, rfl⟩) (by assumption) ?_
    try simp only [Act.put, List.setIfInBounds_toArray, List.set_cons_zero, List.set_cons_succ]
    refine wpAnyH_take (i := 18) (v := undef) (oper_at (r := _) rfl) (by kernel_rfl) (by kernel_rfl) (by kernel_rfl) (fun _ _ _ h => h) (Or.inr ⟨by rfl, rfl⟩) (by assumption) ?_
    try simp only [Act.put, List.setIfInBounds_toArray, List.set_cons_zero, List.set_cons_succ]
    refine wpAnyH_take (i := 19) (v := undef) (oper_at (r := _) rfl) (by kernel_rfl) (by kernel_rfl) (by kernel_rfl) (fun _ _ _ h => h) (Or.inr ⟨by rfl, rfl⟩) (by assumption) ?_
    try simp only [Act.put, List.setIfInBounds_toArray, List.set_cons_zero, List.set_cons_succ]
    refine wpAnyH_take (i := 20) (v := undef) (oper_at (r := _) rfl) (by kernel_rfl) (by kernel_rfl) (by kernel_rfl) (fun _ _ _ h => h) (Or.inr ⟨by rfl, rfl⟩) (by assumption) ?_
    try simp only [Act.put, List.setIfInBounds_toArray, List.set_cons_zero, List.set_cons_succ]
    refine wpAnyH_ready (rs := [17]) (by kernel_rfl) (by simp) ?_
    refine AllReadyH.cons (oper_at (r := _) rfl) (fun K hK => ?_) AllReadyH.nil
    rw [if_neg (by rw [show Region.wanted _ _ = false from rfl]; exact Bool.false_ne_true)]
    refine hK.out _ _ (HS3.out) (fun _ => ?_)
    clear hK K
    try simp only [Act.put, List.setIfInBounds_toArray, List.set_cons_zero, List.set_cons_succ]
    refine wpAnyH_take (i := 21) (v := undef) (oper_at (r := _) rfl) (by kernel_rfl) (by kernel_rfl) (by kernel_rfl) (fun _ _ _ h => h) (Or.inr ⟨by rfl, rfl⟩) (by assumption) ?_
    try simp only [Act.put, List.setIfInBounds_toArray, List.set_cons_zero, List.set_cons_succ]
    refine wpAnyH_take (i := 22) (v := ?_) (oper_at (r := _) rfl) (by kernel_rfl) (by kernel_rfl) (by kernel_rfl) (fun _ _ _ h => h) (Or.inl ⟨by rfl, ?_⟩) (by assumption) ?_
    rotate_left
    · intro w hSw; try dsimp only at hSw
      go_simp
      try with_reducible rfl
    try simp only [Act.put, List.setIfInBounds_toArray, List.set_cons_zero, List.set_cons_succ]
    refine wpAnyH_take (i := 23) (v := ?_) (oper_at (r := _) rfl) (by kernel_rfl) (by kernel_rfl) (by kernel_rfl) (fun _ _ _ h => h) (Or.inl ⟨by rfl, ?_⟩) (by assumption) ?_
    rotate_left
    · intro w hSw; try dsimp only at hSw
      go_simp
      try with_reducible rfl
    try simp only [Act.put, List.setIfInBounds_toArray, List.set_cons_zero, List.set_cons_succ]
    refine wpAnyH_done (by kernel_rfl) ?_ _
    refine NoPanic.normal ?_
    go_wp2_with fail
    go_ret
    exact ⟨ret_bool (by rw [HR.out]), HSR3.out.1⟩
  have HX2 := Lib.hid (show R = ((k2 : Int) == (b.es.length : Int)) by rw [HX.out, ht]; rfl)
  clear HX
  refine wpAnyH_take (i := 12) (v := ?_) (oper_at (r := _) rfl) (by kernel_rfl) (by kernel_rfl) (by kernel_rfl) (fun _ _ _ h => h) (Or.inl ⟨by rfl, ?_⟩) (by assumption) ?_
  rotate_left
  · intro w hSw; try dsimp only at hSw
    go_simp
    try with_reducible rfl
  try simp only [Act.put, List.setIfInBounds_toArray, List.set_cons_zero, List.set_cons_succ]
  refine wpAnyH_take (i := 13) (v := ?_) (oper_at (r := _) rfl) (by kernel_rfl) (by kernel_rfl) (by kernel_rfl) (fun _ _ _ h => h) (Or.inl ⟨by rfl, ?_⟩) (by assumption) ?_
  rotate_left
  · intro w hSw; try dsimp only at hSw
    go_simp
    try with_reducible rfl
  try simp only [Act.put, List.setIfInBounds_toArray, List.set_cons_zero, List.set_cons_succ]
  refine wpAnyH_take (i := 14) (v := ?_) (oper_at (r := _) rfl) (by kernel_rfl) (by kernel_rfl) (by kernel_rfl) (fun _ _ _ h => h) (Or.inl ⟨by rfl, ?_⟩) (by assumption) ?_
  rotate_left
  · intro w hSw; try dsimp only at hSw
    go_simp
    try with_reducible rfl
  try simp only [Act.put, List.setIfInBounds_toArray, List.set_cons_zero, List.set_cons_succ]
  refine wpAnyH_take (i := 15) (v := ?_) (oper_at (r := _) rfl) (by kernel_rfl) (by kernel_rfl) (by kernel_rfl) (fun _ _ _ h => h) (Or.inl ⟨by rfl, ?_⟩) (by assumption) ?_
  rotate_left
  · intro w hSw; try dsimp only at hSw
    go_simp
    try with_reducible rfl
  try simp only [Act.put, List.setIfInBounds_toArray, List.set_cons_zero, List.set_cons_succ]
  refine wpAnyH_take (i := 16) (v := ?_) (oper_at (r := _) rfl) (by kernel_rfl) (by kernel_rfl) (by kernel_rfl) (fun _ _ _ h => h) (Or.inl ⟨by rfl, ?_⟩) (by assumption) ?_
  rotate_left
  · intro w hSw; try dsimp only at hSw
    go_simp
    try with_reducible rfl
  try simp only [Act.put, List.setIfInBounds_toArray, List.set_cons_zero, List.set_cons_succ]
  refine wpAnyH_take (i := 18) (v := ?_) (oper_at (r := _) rfl) (by kernel_rfl) (by kernel_rfl) (by kernel_rfl) (fun _ _ _ h => h) (Or.inl ⟨by rfl, ?_⟩) (by assumption) ?_
  rotate_left
  · intro w hSw; try dsimp only at hSw
    go_simp
    try with_reducible rfl
  try simp only [Act.put, List.setIfInBounds_toArray, List.set_cons_zero, List.set_cons_succ]
  refine wpAnyH_take (i := 19) (v := ?_) (oper_at (r := _) rfl) (by kernel_rfl) (by kernel_rfl) (by kernel_rfl) (fun _ _ _ h => h) (Or.inl ⟨by rfl, ?_⟩) (by assumption) ?_
  rotate_left
  · intro w hSw; try dsimp only at hSw
    go_simp
    try with_reducible rfl
  try simp only [Act.put, List.setIfInBounds_toArray, List.set_cons_zero, List.set_cons_succ]
  refine wpAnyH_take (i := 20) (v := ?_) (oper_at (r := _) rfl) (by kernel_rfl) (by kernel_rfl) (by kernel_rfl) (fun _ _ _ h => h) (Or.inl ⟨by rfl, ?_⟩) (by assumption) ?_
  rotate_left
  · intro w hSw; try dsimp only at hSw
    go_simp
    try with_reducible rfl
  try simp only [Act.put, List.setIfInBounds_toArray, List.set_cons_zero, List.set_cons_succ]
  refine wpAnyH_ready (rs := [17]) (by kernel_rfl) (by simp) ?_
  refine AllReadyH.cons (oper_at (r := _) rfl) (fun K hK => ?_) AllReadyH.nil
  go_simp
  refine (HC2.out _ HSR3.out.1).mono ?_
  rintro e w4 ⟨rfl, hb4⟩
  have HS4 := Lib.hid (HUP.out _ _ HS3.out hb4)
  have HSR4 := Lib.hid (HSR3.out.up hb4)
  clear hb4
  go_wp2_with fail
  refine hK.out _ _ (HS4.out) (fun _ => ?_)
  clear hK K
  try simp only [Act.put, List.setIfInBounds_toArray, List.set_cons_zero, List.set_cons_succ]
  refine wpAnyH_take (i := 21) (v := ?_) (oper_at (r := _) rfl) (by kernel_rfl) (by kernel_rfl) (by kernel_rfl) (fun _ _ _ h => h) (Or.inl ⟨by rfl, ?_⟩) (by assumption) ?_
  rotate_left
  · intro w hSw; try dsimp only at hSw
    go_simp
    try with_reducible rfl
  try simp only [Act.put, List.setIfInBounds_toArray, List.set_cons_zero, List.set_cons_succ]
  refine wpAnyH_take (i := 22) (v := ?_) (oper_at (r := _) rfl) (by kernel_rfl) (by kernel_rfl) (by kernel_rfl) (fun _ _ _ h => h) (Or.inl ⟨by rfl, ?_⟩) (by assumption) ?_
  rotate_left
  · intro w hSw; try dsimp only at hSw
    go_simp
    try with_reducible rfl
  try simp only [Act.put, List.setIfInBounds_toArray, List.set_cons_zero, List.set_cons_succ]
  refine wpAnyH_take (i := 23) (v := ?_) (oper_at (r := _) rfl) (by kernel_rfl) (by kernel_rfl) (by kernel_rfl) (fun _ _ _ h => h) (Or.inl ⟨by rfl, ?_⟩) (by assumption) ?_
  rotate_left
  · intro w hSw; try dsimp only at hSw
    go_simp
    try with_reducible rfl
  try simp only [Act.put, List.setIfInBounds_toArray, List.set_cons_zero, List.set_cons_succ]
  refine wpAnyH_done (by kernel_rfl) ?_ _
  refine NoPanic.normal ?_
  go_wp2_with fail
  go_ret
  exact ⟨ret_bool (by rw [HX2.out]), HSR4.out.1⟩

end Go.Proofs.YtaeelanbkdkppaaDoor

/-
  Graphs: the example; awake.
-/
namespace Go.Proofs.YtaeelanbkdkppaaDoor
open Go.RowKit

/-- a block that is known whole reads as a slice -/
theorem reads_lit {α : Type} {E : El α} {t : TypeId} {w : World} {g B : Nat} {cs : Array Value} {xs : List α} (h : w.heap[g]? = some (.cells cs t (0, 0))) (hc : cs.toList = cellsE E xs) (hB : g < B) : Reads E w B (some ⟨g, 0, none⟩) xs :=
  .inr ⟨g, 0, rfl, hB, fun i x hx j u hu => by
    have := cellsE_get E hx hu
    rw [← hc, Array.getElem?_toList] at this
    rw [Nat.zero_add, cell_of_row _ _ _ _ _ _ h]
    exact this⟩
theorem gr_lit {u : World} {a b : Nat} {ca cb : Array Value} {xs : List Int} {ys : List Ed} {n m : Nat} (hn : n = xs.length) (hm : m = ys.length) (h1 : u.heap[a]? = some (.cells ca 3 (0, 0))) (h2 : u.heap[b]? = some (.cells cb 65 (0, 0))) (e1 : ca.toList = cellsE EInt xs) (e2 : cb.toList = cellsE EEd ys) (l1 : xs.length ≤ 100) (l2 : ys.length ≤ 100) :
    GrAt u (some ⟨a, 0, none⟩) n (some ⟨b, 0, none⟩) m ⟨xs, ys⟩ :=
  ⟨reads_lit h1 e1 (heap_lt h1), reads_lit h2 e2 (heap_lt h2), ⟨by subst hn; exact Nat.le_refl _, by subst hn; unfold maxLen; omega⟩, ⟨by subst hm; exact Nat.le_refl _, by subst hm; unfold maxLen; omega⟩⟩
def exR : Gr := ⟨[3, 1], [⟨0, 0, 1⟩]⟩
def exM : Mo := ⟨[0, -1, 1], [-1, 0]⟩
def AwS (w : World) (h : Nat) (An Ae Bn Be : Option Addr) (cn ce dn de : Nat) (W : World) : Prop := BoxIs h (.slice An exR.ns.length cn) (.slice Ae exR.es.length ce) 25 W ∧ BoxIs (h + 1) (.slice Bn exM.ns.length dn) (.slice Be exM.es.length de) 27 W ∧ GrAt W An cn Ae ce exR ∧ MoAt W Bn dn Be de exM ∧ Below w.heap.size w W
theorem AwS.up {w W W' : World} {h : Nat} {An Ae Bn Be : Option Addr} {cn ce dn de : Nat} (k : AwS w h An Ae Bn Be cn ce dn de W) (hb : Below W.heap.size W W') : AwS w h An Ae Bn Be cn ce dn de W' :=
  ⟨k.1.up hb, k.2.1.up hb, k.2.2.1.up hb, k.2.2.2.1.up hb, k.2.2.2.2.trans (hb.mono k.2.2.2.2.size)⟩

end Go.Proofs.YtaeelanbkdkppaaDoor

