/- Rack: a rack of numbers as pairs: Put, Add, Drop, Get, Free; whether it is as the document's. -/
import Derived.Test.YtbilkelbelimjaaKQ
namespace Go.Proofs.Ytbilkelbelimjaa
open Go.RowKit
set_option maxRecDepth 20000

theorem map_ins (ps : Ps) (p x : Nat) (z : Int) : (ps.take p ++ [(x, z)] ++ ps.drop p).map (·.1) = (ps.map (·.1)).take p ++ [x] ++ (ps.map (·.1)).drop p := by simp [List.map_take, List.map_drop]
theorem map_ins2 (ps : Ps) (p x : Nat) (z : Int) : (ps.take p ++ [(x, z)] ++ ps.drop p).map (·.2) = (ps.map (·.2)).take p ++ [z] ++ (ps.map (·.2)).drop p := by simp [List.map_take, List.map_drop]
theorem map_del (ps : Ps) (p : Nat) : (ps.take p ++ ps.drop (p + 1)).map (·.1) = (ps.map (·.1)).take p ++ (ps.map (·.1)).drop (p + 1) := by simp [List.map_take, List.map_drop]
theorem map_del2 (ps : Ps) (p : Nat) : (ps.take p ++ ps.drop (p + 1)).map (·.2) = (ps.map (·.2)).take p ++ (ps.map (·.2)).drop (p + 1) := by simp [List.map_take, List.map_drop]
theorem map_set1 {ps : Ps} {p x : Nat} (z : Int) (h : (ps.map (·.1))[p]? = some x) : (ps.set p (x, z)).map (·.1) = ps.map (·.1) := by
  obtain ⟨hlt, he⟩ := List.getElem?_eq_some_iff.1 h
  rw [List.map_set]
  conv => rhs; rw [← List.set_getElem_self hlt]
  rw [he]
theorem map_set2 (ps : Ps) (p x : Nat) (z : Int) : (ps.set p (x, z)).map (·.2) = (ps.map (·.2)).set p z := by rw [List.map_set]
theorem pair_at {ps : Ps} {p x : Nat} {y : Int} (h1 : (ps.map (·.1))[p]? = some x) (h2 : (ps.map (·.2))[p]? = some y) : ps[p]? = some (x, y) := by
  rw [List.getElem?_map] at h1 h2
  obtain ⟨e, he, rfl⟩ := Option.map_eq_some_iff.1 h1
  rw [he] at h2
  injection h2 with h2
  rw [he, ← h2]

theorem put_ps (R : Nat) (most : Int) (vi vt : Value) (ps : Ps) (x : Nat) (z : Int) (w : World) (h : IsR w R most vi vt (ps.map (·.1)) (ps.map (·.2))) (hl : ps.length < 900) (hm : most ≤ 2147483647) :
    Calls Try.prog 15 #[.pointer (some ⟨R, 0, none⟩), .int .u32 (x : Int), .int .i64 z] w fun r w' => ∃ c qs vi' vt', r = .returned (.int .i64 c) ∧ PutR most ps x z c qs ∧ ChR R vi vt w w' ∧ IsR w' R most vi' vt' (qs.map (·.1)) (qs.map (·.2)) := by
  have hR := Nat.le_of_lt (lt_of_block h.row)
  have hl1 : (ps.map (·.1)).length < 1000 := by rw [List.length_map]; omega
  by_cases hx : x ∈ ps.map (·.1)
  · refine (put_there R most vi vt _ _ x z w h (Nat.le_of_lt hl1) hx).mono fun r w' ⟨h1, h2, p, hp, h3⟩ => ⟨0, ps.set p (x, z), vi, vt, h1, .inl ⟨rfl, p, hp, rfl⟩, h2, ?_⟩
    rw [map_set1 z hp, map_set2]
    exact h3
  · refine Z.put_core R most vi vt _ _ x z w h (Nat.le_of_lt hl1) hx _ fun p hp hne => ?_
    by_cases hok : okN x
    · by_cases hf : most ≤ (ps.length : Int)
      · exact (lay_full R most vi vt _ _ p x z w h hok (by rw [List.length_map]; omega)).mono fun r w' ⟨h1, h2⟩ => ⟨10, h1, 10, ps, vi, vt, h1, .inr (.inr (.inl ⟨rfl, hx, hok, hf, rfl⟩)), ChR.of_below hR h2, h.after h2⟩
      · refine (lay_ok R most vi vt _ _ p x z w h hl1 hp hne hok (by rw [List.length_map]; omega)).mono fun r w' ⟨h1, h2, vi', vt', h3⟩ => ⟨0, h1, 0, ps.take p ++ [(x, z)] ++ ps.drop p, vi', vt', h1, .inr (.inr (.inr ⟨rfl, hx, hok, by omega, p, hp, rfl⟩)), h2, ?_⟩
        rw [map_ins, map_ins2]
        exact h3
    · refine (lay_id R p x z w hok).mono fun r w' ⟨h1, h2⟩ => ?_
      subst h2
      exact ⟨14, h1, 14, ps, vi, vt, h1, .inr (.inl ⟨rfl, hx, hok, rfl⟩), ChR.of_below hR (Below.refl _ _), h⟩
theorem add_ps (R : Nat) (most : Int) (vi vt : Value) (ps : Ps) (x : Nat) (z : Int) (w : World) (h : IsR w R most vi vt (ps.map (·.1)) (ps.map (·.2))) (hl : ps.length < 900) (hm : most ≤ 2147483647) :
    Calls Try.prog 17 #[.pointer (some ⟨R, 0, none⟩), .int .u32 (x : Int), .int .i64 z] w fun r w' => ∃ c qs vi' vt', r = .returned (.int .i64 c) ∧ AddR most ps x z c qs ∧ ChR R vi vt w w' ∧ IsR w' R most vi' vt' (qs.map (·.1)) (qs.map (·.2)) := by
  have hR := Nat.le_of_lt (lt_of_block h.row)
  have hl1 : (ps.map (·.1)).length < 1000 := by rw [List.length_map]; omega
  by_cases hx : x ∈ ps.map (·.1)
  · refine (add_there R most vi vt _ _ x z w h (Nat.le_of_lt hl1) hx).mono fun r w' ⟨h1, h2⟩ => ?_
    subst h2
    exact ⟨11, ps, vi, vt, h1, .inl ⟨rfl, hx, h.ok x hx, rfl⟩, ChR.of_below hR (Below.refl _ _), h⟩
  · by_cases hok : okN x
    · by_cases hf : most ≤ (ps.length : Int)
      · exact (add_full R most vi vt _ _ x z w h (Nat.le_of_lt hl1) hx hok (by rw [List.length_map]; omega)).mono fun r w' ⟨h1, h2⟩ => ⟨10, ps, vi, vt, h1, .inr ⟨hx, .inr (.inr (.inl ⟨rfl, hx, hok, hf, rfl⟩))⟩, ChR.of_below hR h2, h.after h2⟩
      · refine (add_ok R most vi vt _ _ x z w h hl1 hx hok (by rw [List.length_map]; omega)).mono fun r w' ⟨h1, h2, p, vi', vt', hp, h3⟩ => ⟨0, ps.take p ++ [(x, z)] ++ ps.drop p, vi', vt', h1, .inr ⟨hx, .inr (.inr (.inr ⟨rfl, hx, hok, by omega, p, hp, rfl⟩))⟩, h2, ?_⟩
        rw [map_ins, map_ins2]
        exact h3
    · refine (add_id R most vi vt _ _ x z w h (Nat.le_of_lt hl1) hok).mono fun r w' ⟨h1, h2⟩ => ?_
      subst h2
      exact ⟨14, ps, vi, vt, h1, .inr ⟨hx, .inr (.inl ⟨rfl, hx, hok, rfl⟩)⟩, ChR.of_below hR (Below.refl _ _), h⟩
theorem drop_ps (R : Nat) (most : Int) (vi vt : Value) (ps : Ps) (x : Nat) (w : World) (h : IsR w R most vi vt (ps.map (·.1)) (ps.map (·.2))) (hl : ps.length < 900) :
    Calls Try.prog 19 #[.pointer (some ⟨R, 0, none⟩), .int .u32 (x : Int)] w fun r w' => ∃ v b qs vi' vt', r = .returned (.tuple #[.int .i64 v, .bool b]) ∧ DropR ps x v b qs ∧ ChR R vi vt w w' ∧ IsR w' R most vi' vt' (qs.map (·.1)) (qs.map (·.2)) := by
  have hR := Nat.le_of_lt (lt_of_block h.row)
  have hl1 : (ps.map (·.1)).length ≤ 1000 := by rw [List.length_map]; omega
  by_cases hx : x ∈ ps.map (·.1)
  · refine (Z.drop_there R most vi vt _ _ x w h hl1 hx).mono fun r w' ⟨p, y, hp, hy, h1, h2, vi', vt', h3⟩ => ⟨y, true, ps.take p ++ ps.drop (p + 1), vi', vt', h1, .inl ⟨rfl, p, pair_at hp hy, rfl⟩, h2, ?_⟩
    rw [map_del, map_del2]
    exact h3
  · refine (Z.drop_none R most vi vt _ _ x w h hl1 hx).mono fun r w' ⟨h1, h2⟩ => ?_
    subst h2
    exact ⟨0, false, ps, vi, vt, h1, .inr ⟨rfl, rfl, hx, rfl⟩, ChR.of_below hR (Below.refl _ _), h⟩
theorem get_ps (R : Nat) (most : Int) (vi vt : Value) (ps : Ps) (x : Nat) (w : World) (h : IsR w R most vi vt (ps.map (·.1)) (ps.map (·.2))) (hl : ps.length < 900) :
    Calls Try.prog 13 #[.pointer (some ⟨R, 0, none⟩), .int .u32 (x : Int)] w fun r w' => (∃ v b, r = .returned (.tuple #[.int .i64 v, .bool b]) ∧ GetR ps x v b) ∧ w' = w := by
  have hl1 : (ps.map (·.1)).length ≤ 1000 := by rw [List.length_map]; omega
  by_cases hx : x ∈ ps.map (·.1)
  · exact (Z.get_there R most vi vt _ _ x w h hl1 hx).mono fun r w' ⟨⟨p, y, hp, hy, h1⟩, h2⟩ => ⟨⟨y, true, h1, .inl ⟨rfl, List.mem_of_getElem? (pair_at hp hy)⟩⟩, h2⟩
  · exact (Z.get_none R most vi vt _ _ x w h hl1 hx).mono fun r w' ⟨h1, h2⟩ => ⟨⟨0, false, h1, .inr ⟨rfl, rfl, hx⟩⟩, h2⟩
theorem free_ps (R : Nat) (most : Int) (vi vt : Value) (ps : Ps) (w : World) (h : IsR w R most vi vt (ps.map (·.1)) (ps.map (·.2))) (hl : ps.length < 900) (hm : most ≤ 2147483647) :
    Calls Try.prog 34 #[.pointer (some ⟨R, 0, none⟩)] w fun r w' => (∃ f : Nat, r = .returned (.int .u32 (f : Int)) ∧ D.FreeR most ps f) ∧ Below w.heap.size w w' := by
  by_cases hf : most ≤ (ps.length : Int)
  · exact (free_full R most vi vt _ _ w h (by rw [List.length_map]; omega)).mono fun r w' ⟨h1, h2⟩ => ⟨⟨0, h1, .inl ⟨rfl, hf⟩⟩, h2⟩
  · exact (Z.free_least R most vi vt _ _ w h (by rw [List.length_map]; omega) (by rw [List.length_map]; omega)).mono fun r w' ⟨⟨f, h1, h2⟩, h3⟩ => ⟨⟨f, h2, .inr ⟨by omega, h1⟩⟩, h3⟩
theorem get_drop {ps qs : Ps} {x : Nat} {u v : Int} {a b : Bool} (hu : Up (ps.map (·.1))) (h1 : GetR ps x u a) (h2 : DropR ps x v b qs) : v = u ∧ b = a := by
  rcases h1 with ⟨rfl, h1⟩ | ⟨rfl, rfl, h1⟩ <;> rcases h2 with ⟨rfl, p, hp, _⟩ | ⟨rfl, rfl, h3, _⟩
  · exact ⟨up_val hu (List.mem_of_getElem? hp) h1, rfl⟩
  · exact absurd (List.mem_map.2 ⟨_, h1, rfl⟩) h3
  · exact absurd (List.mem_map.2 ⟨_, List.mem_of_getElem? hp, rfl⟩) h1
  · exact ⟨rfl, rfl⟩
theorem rget_any (A : Option Addr) (n c : Nat) (most : Int) (x : Nat) (u : Int) (a : Bool) (l ps : Ps) (w : World) (hn : n = l.length) (hR : D.Rs w w.heap.size A l) (hl : n ≤ 900) (hpe : l.Perm ps) (hu : Up (ps.map (·.1))) (hG : GetR ps x u a) :
    Calls Try.prog 14 #[.agg #[.slice A n c, .int .i64 most], .int .u32 (x : Int)] w fun r w' => r = .returned (.tuple #[.int .i64 u, .bool a]) ∧ Below w.heap.size w w' := by
  rcases hG with ⟨rfl, h1⟩ | ⟨rfl, rfl, h1⟩
  · exact D.get_in A n c most x u l w hn hR (by omega) (hpe.mem_iff.2 h1) fun v' hv => up_val hu (hpe.mem_iff.1 hv) h1
  · exact D.get_out A n c most x l w hn hR (by omega) fun e he hx => h1 ((perm_fst hpe x).1 (List.mem_map.2 ⟨e, he, hx⟩))
theorem PutR.len {most : Int} {ps qs : Ps} {x : Nat} {z c : Int} (h : PutR most ps x z c qs) (hl : (ps.length : Int) ≤ most) : (qs.length : Int) ≤ most := by
  rcases h with ⟨_, p, _, rfl⟩ | ⟨_, _, _, rfl⟩ | ⟨_, _, _, _, rfl⟩ | ⟨_, _, _, h1, p, hp, rfl⟩
  · rw [List.length_set]; exact hl
  · exact hl
  · exact hl
  · have := hp.1
    rw [List.length_map] at this
    rw [ins_len _ _ _ this]
    omega
theorem AddR.len {most : Int} {ps qs : Ps} {x : Nat} {z c : Int} (h : AddR most ps x z c qs) (hl : (ps.length : Int) ≤ most) : (qs.length : Int) ≤ most := by
  rcases h with ⟨_, _, _, rfl⟩ | ⟨_, h⟩
  · exact hl
  · exact h.len hl
theorem DropR.len {most : Int} {ps qs : Ps} {x : Nat} {v : Int} {b : Bool} (h : DropR ps x v b qs) (hl : (ps.length : Int) ≤ most) : (qs.length : Int) ≤ most := by
  rcases h with ⟨_, p, _, rfl⟩ | ⟨_, _, _, rfl⟩
  · rw [List.length_append, List.length_take, List.length_drop]; omega
  · exact hl
theorem DropR.perm {ps qs rows : Ps} {x : Nat} {v : Int} {b : Bool} (h : DropR ps x v b qs) (hu : Up (ps.map (·.1))) (hp : rows.Perm ps) : (D.dropR x rows).Perm qs := by
  refine (drop_perm hp x).trans ?_
  rcases h with ⟨_, p, hp, rfl⟩ | ⟨_, _, hx, rfl⟩
  · rw [drop_at hu hp]
  · rw [drop_same hx]
end Go.Proofs.Ytbilkelbelimjaa
