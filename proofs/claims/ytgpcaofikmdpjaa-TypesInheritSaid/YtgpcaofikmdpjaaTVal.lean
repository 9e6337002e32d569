/-
  Types: Valid and given of the reference.
-/
import Derived.Test.YtgpcaofikmdpjaaTEdge
namespace Go.Proofs.Ytgpcaofikmdpjaa
open Go.RowKit

/-- the first error of f k, f (k + 1), .. (d of them) with its name; z if there is none -/
def resD (f : Nat → Nat) (g : Nat → ByteArray) (z : Nat × ByteArray) : Nat → Nat → Nat × ByteArray
  | _, 0 => z
  | k, d + 1 => if f k ≠ 0 then (f k, g k) else resD f g z (k + 1) d
theorem resD_step {f : Nat → Nat} {g : Nat → ByteArray} {z : Nat × ByteArray} {n k : Nat} (hk : k < n) : resD f g z k (n - k) = if f k ≠ 0 then (f k, g k) else resD f g z (k + 1) (n - (k + 1)) := by
  rw [show n - k = (n - (k + 1)) + 1 by omega]; rfl
theorem resD_end {f : Nat → Nat} {g : Nat → ByteArray} {z : Nat × ByteArray} {n k : Nat} (hk : n ≤ k) : resD f g z k (n - k) = z := by
  rw [show n - k = 0 by omega]; rfl
theorem resD_zero {f : Nat → Nat} {g : Nat → ByteArray} {z : Nat × ByteArray} : ∀ (d k : Nat), (resD f g z k d).1 = 0 → z.1 = 0 ∧ ∀ i, k ≤ i → i < k + d → f i = 0 := by
  intro d
  induction d with
  | zero => intro k h; exact ⟨h, fun i h1 h2 => by omega⟩
  | succ d ih =>
    intro k h
    simp only [resD] at h
    by_cases h0 : f k = 0
    · rw [if_neg (fun e => e h0)] at h
      obtain ⟨h1, h2⟩ := ih (k + 1) h
      refine ⟨h1, fun i h3 h4 => ?_⟩
      by_cases e : i = k
      · rw [e]; exact h0
      · exact h2 i (by omega) (by omega)
    · rw [if_pos h0] at h
      exact absurd h h0
def edgesR (t : Typ) : Nat → Nat → Nat × ByteArray := resD (edgeE t) (fun i => (t.edges.getD i default).nm) (0, ⟨#[]⟩)
def nodesR (t : Typ) : Nat → Nat → Nat × ByteArray := resD (nodeE t) (fun i => (t.nodes.getD i default).nm) (edgesR t 0 t.edges.length)
/-- the error of a type graph and the name that it is about -/
def validR (t : Typ) : Nat × ByteArray := if t.nodes.length = 0 then (7, ⟨#[]⟩) else if 12 < t.nodes.length ∨ 20 < t.edges.length then (3, ⟨#[]⟩) else nodesR t 0 t.nodes.length
theorem node_good {t : Typ} {k : Nat} (h : nodeE t k = 0) : -1 ≤ parT t k ∧ parT t k < k := by
  unfold nodeE nodeR at h
  by_cases h1 : isNm (t.nodes.getD k default).nm = false
  · rw [if_pos h1] at h; cases h
  · rw [if_neg h1] at h
    by_cases h2 : (t.nodes.take k).any (fun y => decide (y.nm = (t.nodes.getD k default).nm)) = true
    · rw [if_pos h2] at h; cases h
    · rw [if_neg h2] at h
      by_cases h3 : inB (t.nodes.getD k default).par (-1) ((k : Int) - 1) = false
      · rw [if_pos h3] at h; cases h
      · have h4 : inB (t.nodes.getD k default).par (-1) ((k : Int) - 1) = true := by simpa using h3
        unfold inB at h4
        simp only [Bool.and_eq_true, decide_eq_true_eq] at h4
        unfold parT
        omega
structure ValidT (t : Typ) : Prop where
  pos : 1 ≤ t.nodes.length
  few : t.nodes.length ≤ 12
  fewE : t.edges.length ≤ 20
  nodes : ∀ i, i < t.nodes.length → nodeE t i = 0
  edges : ∀ i, i < t.edges.length → edgeE t i = 0
theorem valid_of {t : Typ} (h : (validR t).1 = 0) : ValidT t := by
  unfold validR at h
  by_cases h1 : t.nodes.length = 0
  · rw [if_pos h1] at h; cases h
  · rw [if_neg h1] at h
    by_cases h2 : 12 < t.nodes.length ∨ 20 < t.edges.length
    · rw [if_pos h2] at h; cases h
    · rw [if_neg h2] at h
      obtain ⟨k1, k2⟩ := resD_zero _ _ h
      obtain ⟨_, k3⟩ := resD_zero _ _ k1
      exact ⟨by omega, by omega, by omega, fun i hi => k2 i (Nat.zero_le _) (by omega), fun i hi => k3 i (Nat.zero_le _) (by omega)⟩
theorem ValidT.good {t : Typ} (h : ValidT t) : GoodP t := fun i hi => node_good (h.nodes i hi)

/-- a type graph in memory -/
def TyC (w : World) (An : Option Addr) (Ae : Option Addr) (t : Typ) : Prop := Nods w w.heap.size An t.nodes ∧ Edgs w w.heap.size Ae t.edges
theorem TyC.up {w w' : World} {An Ae : Option Addr} {t : Typ} (h : TyC w An Ae t) (hb : Below w.heap.size w w') : TyC w' An Ae t := ⟨h.1.up hb, Reads.up h.2 hb⟩
theorem box_cell {w u : World} {a b : Value} {T : TypeId} (h : Below (w.heap.size + 1) (w.alloc (.cells #[a, b] T (0, 0))) u) : u.cell? ⟨w.heap.size, 0, none⟩ = some a ∧ u.cell? ⟨w.heap.size, 1, none⟩ = some b :=
  ⟨(h.cell (p := ⟨w.heap.size, 0, none⟩) (by simp)).trans (by simp), (h.cell (p := ⟨w.heap.size, 1, none⟩) (by simp)).trans (by simp)⟩
theorem box_below {w u : World} {o : Obj} (h : Below (w.heap.size + 1) (w.alloc o) u) : Below w.heap.size w u := ((Below.refl w.heap.size w).alloc (Nat.le_refl _) o).trans (h.mono (by omega))

theorem ret_res {a b : Nat × ByteArray} (h : a = b) : Ending.returned (.tuple #[.string a.2, .int .i64 a.1]) = .returned (.tuple #[.string b.2, .int .i64 b.1]) := by rw [h]

set_option maxRecDepth 100000 in
set_option maxHeartbeats 4000000 in
theorem valid_any (hn : NameC 55) (t : Typ) (An : Option Addr) (cn : Nat) (Ae : Option Addr) (ce : Nat) (hf : FewT t) (w : World) (hT : TyC w An Ae t) :
    Calls Try.prog 14 #[tyval An t.nodes.length cn Ae t.edges.length ce] w fun e w' => e = .returned (.tuple #[.string (validR t).2, .int .i64 (validR t).1]) ∧ Below w.heap.size w w' := by
  have HT := Lib.hid hT
  have HX : Hid (validR t = if t.nodes.length = 0 then (7, ⟨#[]⟩) else if 12 < t.nodes.length ∨ 20 < t.edges.length then (3, ⟨#[]⟩) else nodesR t 0 (t.nodes.length - 0)) := Lib.hid rfl
  generalize validR t = R at HX ⊢
  have HNS : Hid (∀ i, i < t.nodes.length → nodesR t i (t.nodes.length - i) = if nodeE t i ≠ 0 then (nodeE t i, (t.nodes.getD i default).nm) else nodesR t (i + 1) (t.nodes.length - (i + 1))) := Lib.hid fun i hi => resD_step hi
  have HES : Hid (∀ i, i < t.edges.length → edgesR t i (t.edges.length - i) = if edgeE t i ≠ 0 then (edgeE t i, (t.edges.getD i default).nm) else edgesR t (i + 1) (t.edges.length - (i + 1))) := Lib.hid fun i hi => resD_step hi
  have HNZ : Hid (∀ i, t.nodes.length ≤ i → nodesR t i (t.nodes.length - i) = edgesR t 0 (t.edges.length - 0)) := Lib.hid fun i hi => resD_end hi
  have HEZ : Hid (∀ i, t.edges.length ≤ i → edgesR t i (t.edges.length - i) = (0, ⟨#[]⟩)) := Lib.hid fun i hi => resD_end hi
  have HNA := Lib.hid (fun (k : Nat) (hk : k < t.nodes.length) (h : ∀ j, j < k → nodeE t j = 0) (u : World) (hu : TyC u An Ae t) => node_any hn t An cn Ae ce k hk (fun i hi => node_good (h i hi)) hf u hu.1)
  have HEA := Lib.hid (fun (k : Nat) (hk : k < t.edges.length) (u : World) (hu : TyC u An Ae t) => edge_any hn t An cn Ae ce k hk hf u hu.2)
  have HNC : Hid (∀ (u : World) (k : Nat) (hk : k < t.nodes.length), TyC u An Ae t → ∃ b off, An = some ⟨b, off, none⟩ ∧ u.cell? ⟨b, off + k * 4, none⟩ = some (.string (t.nodes.getD k default).nm)) := Lib.hid fun u k hk hu => by
    obtain ⟨b, off, _, _, h1, _, h2, _⟩ := Nods.cells hu.1 hk
    exact ⟨b, off, h1, by rw [getD_at hk]; exact h2⟩
  have HEC : Hid (∀ (u : World) (k : Nat) (hk : k < t.edges.length), TyC u An Ae t → ∃ b off, Ae = some ⟨b, off, none⟩ ∧ u.cell? ⟨b, off + k * 7, none⟩ = some (.string (t.edges.getD k default).nm)) := Lib.hid fun u k hk hu => by
    obtain ⟨b, off, h1, _, h2, _⟩ := Edgs.cells hu.2 hk
    exact ⟨b, off, h1, by rw [getD_at hk]; exact h2⟩
  have hn20 := hf.nodes
  have hm30 := hf.edges
  clear hT hn hf
  generalize hN : t.nodes.length = N at *
  generalize hM : t.edges.length = M at *
  clear hN hM
  by_cases h0 : N = 0
  · have HR : Hid (R = (7, ⟨#[]⟩)) := Lib.hid (by rw [HX.out, if_pos h0])
    subst h0
    clear HX
    go_enter Try.func14, Try.ntmps14
    go_wp2_with fail
    go_ret2
    exact ⟨(ret_res HR.out).symm, (Below.refl _ _).alloc (Nat.le_refl _) _⟩
  · have t0 : ((N : Int) == 0) = false := by simp; omega
    by_cases h12 : 12 < N
    · have HR : Hid (R = (3, ⟨#[]⟩)) := Lib.hid (by rw [HX.out, if_neg h0, if_pos (.inl h12)])
      have t1 : decide (12 < (N : Int)) = true := decide_eq_true (by omega)
      clear HX
      go_enter Try.func14, Try.ntmps14
      go_wp2_with fail
      go_ret2
      exact ⟨(ret_res HR.out).symm, (Below.refl _ _).alloc (Nat.le_refl _) _⟩
    · have t1 : decide (12 < (N : Int)) = false := decide_eq_false (by omega)
      by_cases h20 : 20 < M
      · have HR : Hid (R = (3, ⟨#[]⟩)) := Lib.hid (by rw [HX.out, if_neg h0, if_pos (.inr h20)])
        have t2 : decide (20 < (M : Int)) = true := decide_eq_true (by omega)
        clear HX
        go_enter Try.func14, Try.ntmps14
        go_wp2_with fail
        go_ret2
        exact ⟨(ret_res HR.out).symm, (Below.refl _ _).alloc (Nat.le_refl _) _⟩
      · have t2 : decide (20 < (M : Int)) = false := decide_eq_false (by omega)
        have HR : Hid (R = nodesR t 0 (N - 0)) := Lib.hid (by rw [HX.out, if_neg h0, if_neg (by omega)])
        clear HX
        go_enter Try.func14, Try.ntmps14
        go_wp2_with fail
        clear t0 t1 t2
        go_loopw [4] (fun ii wr => ∃ i : Nat, i ≤ N ∧ ii = .int .i64 i ∧ R = nodesR t i (N - i) ∧ (∀ j, j < i → nodeE t j = 0) ∧ Below (w.heap.size + 1) (w.alloc (.cells #[.slice An N cn, .slice Ae M ce] 25 (0, 0))) wr) (fun ii _ => N - (intOf ii).toNat)
        case atStart => exact ⟨0, Nat.zero_le _, rfl, HR.out, (fun j hj => by omega), Below.refl _ _⟩
        case round =>
          obtain ⟨i, hi, rfl, hR, hz, hB⟩ := hrel
          obtain ⟨c0, c1⟩ := box_cell hB
          have hW := box_below hB
          by_cases hlt : i < N
          · have t1 : decide ((i : Int) < (N : Int)) = true := decide_eq_true (by omega)
            have HNI := Lib.hid (HNA.out i hlt hz wr (HT.out.up hW))
            have HC : Hid (∀ u, Below w.heap.size w u → ∃ b off, An = some ⟨b, off, none⟩ ∧ u.cell? ⟨b, off + i * 4, none⟩ = some (.string (t.nodes.getD i default).nm)) := Lib.hid fun u hu => HNC.out u i hlt (HT.out.up hu)
            rw [HNS.out i hlt] at hR
            have HRS := Lib.hid hR
            have HZ : Hid (nodeE t i = 0 → ∀ j, j < i + 1 → nodeE t j = 0) := Lib.hid fun h j hj => by
              by_cases e : j = i
              · rw [e]; exact h
              · exact hz j (by omega)
            generalize nodeE t i = ee at HNI HRS HZ
            have i0 : (0 : Int) ≤ (i : Int) := by omega
            have i1 : (i : Int) < (N : Int) := by omega
            have i2 : ((i : Int)).toNat = i := by omega
            have HB := Lib.hid hB
            have hsz : w.heap.size + 1 ≤ wr.heap.size := by have := hB.size; simpa using this
            clear hR hz hB hW
            by_cases he : ee = 0
            · have HR2 : Hid (R = nodesR t (i + 1) (N - (i + 1))) := Lib.hid (by rw [HRS.out, if_neg (fun h => h he)])
              have HZ2 := Lib.hid (HZ.out he)
              subst he
              clear HRS HZ
              go_wp2_with fail
              refine HNI.out.mono ?_
              rintro e w2 ⟨rfl, hb2⟩
              have HB2 := Lib.hid (HB.out.trans (hb2.mono hsz))
              clear hb2
              go_wp2_with fail
              go_roundw
              case rel => exact ⟨i + 1, by omega, by go_num, HR2.out, HZ2.out, HB2.out⟩
              case measure => simp [intOf]; omega
            · have HR2 : Hid (R = (ee, (t.nodes.getD i default).nm)) := Lib.hid (by rw [HRS.out, if_pos he])
              have t3 : ((ee : Int) != 0) = true := by simp; omega
              clear HRS HZ he
              go_wp2_with fail
              refine HNI.out.mono ?_
              rintro e w2 ⟨rfl, hb2⟩
              have hb2' := HB.out.trans (hb2.mono hsz)
              obtain ⟨d0, d1⟩ := box_cell hb2'
              obtain ⟨b, off, rfl, j0⟩ := HC.out w2 (box_below hb2')
              have HB2 := Lib.hid (box_below hb2')
              clear hb2 hb2' c0 c1
              go_wp2_with fail
              go_ret2
              exact ⟨(ret_res HR2.out).symm, HB2.out⟩
          · have t1 : decide ((i : Int) < (N : Int)) = false := decide_eq_false (by omega)
            have HR2 : Hid (R = edgesR t 0 (M - 0)) := Lib.hid (by rw [hR]; exact HNZ.out i (by omega))
            have HB := Lib.hid hB
            clear hR hz hB hW
            go_wp2_with fail
            clear c0 c1 t1
            go_loopw [6] (fun jj ws => ∃ j : Nat, j ≤ M ∧ jj = .int .i64 j ∧ R = edgesR t j (M - j) ∧ Below (w.heap.size + 1) (w.alloc (.cells #[.slice An N cn, .slice Ae M ce] 25 (0, 0))) ws) (fun jj _ => M - (intOf jj).toNat)
            case atStart => exact ⟨0, Nat.zero_le _, rfl, HR2.out, HB.out⟩
            case round =>
              obtain ⟨j, hj, rfl, hR, hB⟩ := hrel
              obtain ⟨c0, c1⟩ := box_cell hB
              have hW := box_below hB
              by_cases hltj : j < M
              · have t1 : decide ((j : Int) < (M : Int)) = true := decide_eq_true (by omega)
                have HNI := Lib.hid (HEA.out j hltj wr (HT.out.up hW))
                have HC : Hid (∀ u, Below w.heap.size w u → ∃ b off, Ae = some ⟨b, off, none⟩ ∧ u.cell? ⟨b, off + j * 7, none⟩ = some (.string (t.edges.getD j default).nm)) := Lib.hid fun u hu => HEC.out u j hltj (HT.out.up hu)
                rw [HES.out j hltj] at hR
                have HRS := Lib.hid hR
                generalize edgeE t j = ee at HNI HRS
                have i0 : (0 : Int) ≤ (j : Int) := by omega
                have i1 : (j : Int) < (M : Int) := by omega
                have i2 : ((j : Int)).toNat = j := by omega
                have HB3 := Lib.hid hB
                have hsz : w.heap.size + 1 ≤ wr.heap.size := by have := hB.size; simpa using this
                clear hR hB hW
                by_cases he : ee = 0
                · have HR3 : Hid (R = edgesR t (j + 1) (M - (j + 1))) := Lib.hid (by rw [HRS.out, if_neg (fun h => h he)])
                  subst he
                  clear HRS
                  go_wp2_with fail
                  refine HNI.out.mono ?_
                  rintro e w2 ⟨rfl, hb2⟩
                  have HB2 := Lib.hid (HB3.out.trans (hb2.mono hsz))
                  clear hb2
                  go_wp2_with fail
                  go_roundw
                  case rel => exact ⟨j + 1, by omega, by go_num, HR3.out, HB2.out⟩
                  case measure => simp [intOf]; omega
                · have HR3 : Hid (R = (ee, (t.edges.getD j default).nm)) := Lib.hid (by rw [HRS.out, if_pos he])
                  have t3 : ((ee : Int) != 0) = true := by simp; omega
                  clear HRS he
                  go_wp2_with fail
                  refine HNI.out.mono ?_
                  rintro e w2 ⟨rfl, hb2⟩
                  have hb2' := HB3.out.trans (hb2.mono hsz)
                  obtain ⟨d0, d1⟩ := box_cell hb2'
                  obtain ⟨b, off, rfl, j0⟩ := HC.out w2 (box_below hb2')
                  have HB2 := Lib.hid (box_below hb2')
                  clear hb2 hb2' c0 c1
                  go_wp2_with fail
                  go_ret2
                  exact ⟨(ret_res HR3.out).symm, HB2.out⟩
              · have t1 : decide ((j : Int) < (M : Int)) = false := decide_eq_false (by omega)
                have HR3 : Hid (R = (0, ⟨#[]⟩)) := Lib.hid (by rw [hR]; exact HEZ.out j (by omega))
                have HB3 := Lib.hid hW
                clear hR hB hW
                go_wp2_with fail
                go_ret2
                exact ⟨(ret_res HR3.out).symm, HB3.out⟩

end Go.Proofs.Ytgpcaofikmdpjaa
