/-
  Plain: join and meet are commutative and associative, and absorb one another.
-/
import Derived.Test.YtdflgcfjfgojkaaPlain
namespace Go.Proofs.Ytdflgcfjfgojkaa

theorem meet_of {a b m : List Nat} (hm : V m) (hl : m.length = a.length) (h1 : F m a) (h2 : F m b) (h3 : ∀ c, V c → c.length = a.length → F c a → F c b → F c m) : m = meetS a b := by
  obtain ⟨k1, k2, k3, k4⟩ := meet_all (a := a) (b := b)
  exact F.antisymm hm k1 (by rw [meetS_length, hl]) (k4 m hm hl h1 h2) (h3 _ k1 (meetS_length _ _) k2 k3)

theorem join_comm {a b : List Nat} (ha : V a) (hb : V b) (hl : a.length = b.length) : joinS b a = joinS a b := by
  obtain ⟨h1, h2, h3, h4⟩ := join_all hb ha hl.symm
  exact join_of ha hb hl h1 (by rw [joinS_length, hl]) h3 h2 (fun q k1 k2 => h4 q k2 k1)

theorem join_assoc {a b c : List Nat} (ha : V a) (hb : V b) (hc : V c) (h1 : a.length = b.length) (h2 : b.length = c.length) : joinS a (joinS b c) = joinS (joinS a b) c := by
  obtain ⟨p1, p2, p3, p4⟩ := join_all ha hb h1
  obtain ⟨q1, q2, q3, q4⟩ := join_all hb hc h2
  have lp := joinS_length a b
  have lq := joinS_length b c
  obtain ⟨r1, r2, r3, r4⟩ := join_all ha q1 (by omega)
  refine join_of p1 hc (by omega) r1 (by rw [joinS_length, joinS_length]) ?_ ?_ ?_
  · exact p4 _ r2 (F.trans hb (by omega) q2 r3)
  · exact F.trans hc (by omega) q3 r3
  · intro q k1 k2
    exact r4 q (F.trans ha (by omega) p2 k1) (q4 q (F.trans hb (by omega) p3 k1) k2)

theorem meet_comm {a b : List Nat} (hl : a.length = b.length) : meetS b a = meetS a b := by
  obtain ⟨h1, h2, h3, h4⟩ := meet_all (a := b) (b := a)
  exact meet_of h1 (by rw [meetS_length, hl]) h3 h2 (fun c v l k1 k2 => h4 c v (by omega) k2 k1)

theorem meet_assoc {a b c : List Nat} (h1 : a.length = b.length) (h2 : b.length = c.length) : meetS a (meetS b c) = meetS (meetS a b) c := by
  obtain ⟨p1, p2, p3, p4⟩ := meet_all (a := a) (b := b)
  obtain ⟨q1, q2, q3, q4⟩ := meet_all (a := b) (b := c)
  obtain ⟨r1, r2, r3, r4⟩ := meet_all (a := a) (b := meetS b c)
  have lp := meetS_length a b
  have lq := meetS_length b c
  have lr := meetS_length a (meetS b c)
  refine meet_of r1 (by omega) ?_ ?_ ?_
  · exact p4 _ r1 (by omega) r2 (F.trans r1 (by omega) r3 q2)
  · exact F.trans r1 (by omega) r3 q3
  · intro d v l k1 k2
    exact r4 d v (by omega) (F.trans v (by omega) k1 p2) (q4 d v (by omega) (F.trans v (by omega) k1 p3) k2)

theorem absorb_meet {a b : List Nat} (ha : V a) (hb : V b) (hl : a.length = b.length) : meetS a (joinS a b) = a := by
  obtain ⟨p1, p2, p3, p4⟩ := join_all ha hb hl
  exact (meet_of ha rfl (F.refl ha) p2 (fun c _ _ k1 _ => k1)).symm
theorem absorb_join {a b : List Nat} (ha : V a) : joinS a (meetS a b) = a := by
  obtain ⟨p1, p2, p3, p4⟩ := meet_all (a := a) (b := b)
  exact (join_of ha p1 (meetS_length _ _).symm ha rfl (F.refl ha) p2 (fun q k1 _ => k1)).symm

end Go.Proofs.Ytdflgcfjfgojkaa
