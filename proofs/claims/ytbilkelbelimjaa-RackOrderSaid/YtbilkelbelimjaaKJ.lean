/- Rack: a rack of texts that its numbers tell; two racks side by side. -/
import Derived.Test.YtbilkelbelimjaaKI
import Derived.Test.YtbilkelbelimjaaK8
namespace Go.Proofs.Ytbilkelbelimjaa.S
open Go.RowKit
set_option maxRecDepth 20000

theorem thing_txt {txt : Nat → ByteArray} {w : World} {R : Nat} {most : Int} {vi vt : Value} {ids : List Nat} (h : IsR w R most vi vt ids (ids.map txt)) {p x : Nat} (hp : ids[p]? = some x) : ∃ g cap, vt = .slice (some ⟨g, 0, none⟩) ids.length cap ∧ w.cell? ⟨g, p, none⟩ = some (.string (txt x)) := by
  rcases h.rto.2 with ⟨_, h0⟩ | ⟨g, cap, cur, rfl, hr⟩
  · have := (List.getElem?_eq_some_iff.1 hp).1
    omega
  · have := h.rto.cells (g := g) rfl p (.string (txt x)) (by unfold zn; rw [List.getElem?_map, List.getElem?_map, hp]; rfl)
    rw [Go.WideShapes.add_plain, Nat.zero_add] at this
    exact ⟨g, cap, rfl, this⟩

set_option maxHeartbeats 2000000 in
theorem get_txt (txt : Nat → ByteArray) (R : Nat) (most : Int) (vi vt : Value) (ids : List Nat) (x : Nat) (w : World) (h : IsR w R most vi vt ids (ids.map txt)) (hl : ids.length ≤ 1000) (hx : x ∈ ids) :
    Calls Try.prog 31 #[.pointer (some ⟨R, 0, none⟩), .int .u32 (x : Int)] w fun r w' => r = .returned (.tuple #[.string (txt x), .bool true]) ∧ w' = w := by
  have HP := Lib.hid (place_any R most vi vt ids _ x w h hl)
  have HU := Lib.hid h.up
  obtain ⟨n, hn⟩ : ∃ n, n = ids.length := ⟨_, rfl⟩
  have HH := Lib.hid h
  have hrow := h.row
  have HN := Lib.hid hn
  have HX := Lib.hid hx
  obtain ⟨j0, hj0⟩ := List.getElem?_of_mem hx
  obtain ⟨g0, cap0, hv, _⟩ := thing_txt h hj0
  rw [← hn] at hv
  subst hv
  rw [← hn] at hl
  have c2 := cell_of_row w R 2 _ _ _ hrow
  simp at c2
  clear h hx hrow hn hj0
  go_enter Try.func31, Try.ntmps31
  go_wp2_with fail
  refine HP.out.mono ?_
  rintro r w' ⟨rfl, p, hp, rfl⟩
  have hget := (pl_mem HU.out hp).1 HX.out
  have hd : decide (ids[p]? = some x) = true := by simpa using hget
  have hpn : p < n := by have := (List.getElem?_eq_some_iff.1 hget).1; have := HN.out; omega
  obtain ⟨g, cap, hv, d⟩ := thing_txt HH.out hget
  injection hv with e1 _ e3
  injection e1 with e1
  injection e1 with e1
  subst e1 e3
  rw [hd]
  clear hget hp
  go_wp2
  exact bodyPost_ret (v := .tuple #[.string (txt x), .bool true]) (by simp [results, Try.results31, go_sem]) rfl ⟨rfl, rfl⟩

set_option maxHeartbeats 1000000 in
theorem ids_any (R : Nat) (most : Int) (vi vt : Value) (ids : List Nat) (ths : List ByteArray) (w : World) (h : IsR w R most vi vt ids ths) (hl : ids.length ≤ 1000) :
    Calls Try.prog 29 #[.pointer (some ⟨R, 0, none⟩)] w fun r w' => ∃ v', r = .returned v' ∧ w'.ownsRow w.heap.size 28 1 v' ids.length (un ids) ∧ Below w.heap.size w w' := by
  have HC := Lib.hid (clone_any (R + 1) vi ids w h.rio hl)
  have c1 := cell_of_row w R 1 _ _ _ h.row
  simp at c1
  clear h hl
  go_enter Try.func29, Try.ntmps29
  go_wp2_with fail
  refine HC.out.mono ?_
  rintro r w1 ⟨v', rfl, h1, h2⟩
  have H1 := Lib.hid h1
  clear h1
  go_wp2
  go_ret
  exact ⟨v', rfl, H1.out, h2⟩

theorem mem_ins {ids : List Nat} {p x : Nat} (y : Nat) : y ∈ ids.take p ++ [x] ++ ids.drop p ↔ y ∈ ids ∨ y = x := by
  have e : y ∈ ids ↔ y ∈ ids.take p ∨ y ∈ ids.drop p := by
    rw [← List.mem_append, List.take_append_drop]
  rw [e]
  simp only [List.mem_append, List.mem_singleton]
  constructor
  · rintro ((h | h) | h)
    · exact .inl (.inl h)
    · exact .inr h
    · exact .inl (.inr h)
  · rintro ((h | h) | h)
    · exact .inl (.inl h)
    · exact .inr h
    · exact .inl (.inr h)
theorem put_set (txt : Nat → ByteArray) (R : Nat) (vi vt : Value) (ids : List Nat) (x : Nat) (w : World) (h : IsR w R 40 vi vt ids (ids.map txt)) (hl : ids.length < 40) :
    Calls Try.prog 28 #[.pointer (some ⟨R, 0, none⟩), .int .u32 (x : Int), .string (txt x)] w fun r w' => (∃ v, r = .returned v) ∧ ChR R vi vt w w' ∧ ∃ vi' vt' ids', Nw w vi vi' ∧ Nw w vt vt' ∧ IsR w' R 40 vi' vt' ids' (ids'.map txt) ∧ ids'.length ≤ ids.length + 1 ∧ ∀ y, y ∈ ids' ↔ y ∈ ids ∨ (y = x ∧ 1 ≤ x ∧ x ≤ 2147483647) := by
  have hR := Nat.le_of_lt (lt_of_block h.row)
  by_cases hx : x ∈ ids
  · refine (put_there R 40 vi vt ids _ x (txt x) w h (by omega) hx).mono fun _ _ ⟨h1, h2, p, hp, h3⟩ => ?_
    have e : (ids.map txt).set p (txt x) = ids.map txt := by
      apply List.ext_getElem?
      intro j
      rw [List.getElem?_set]
      split
      · rename_i hj
        subst hj
        rw [List.getElem?_map, hp]
        have := (List.getElem?_eq_some_iff.1 hp).1
        simp [this]
      · rfl
    rw [e] at h3
    refine ⟨⟨_, h1⟩, h2, vi, vt, ids, .inl rfl, .inl rfl, h3, Nat.le_succ _, fun y => ⟨.inl, ?_⟩⟩
    rintro (hy | ⟨rfl, _⟩)
    · exact hy
    · exact hx
  · refine put_core R 40 vi vt ids _ x (txt x) w h (by omega) hx _ fun p hp hne => ?_
    by_cases hok : 1 ≤ x ∧ x ≤ 2147483647
    · refine (lay_ok R 40 vi vt ids _ p x (txt x) w h (by omega) hp hne hok (by omega)).mono fun _ _ ⟨h1, h2, vi', vt', n1, n2, h3⟩ => ⟨0, h1, ⟨_, h1⟩, h2, vi', vt', ids.take p ++ [x] ++ ids.drop p, n1, n2, ?_, by rw [ins_len _ _ _ hp.1]; exact Nat.le_refl _, fun y => ?_⟩
      · rw [List.map_append, List.map_append, List.map_take, List.map_drop]
        exact h3
      · rw [mem_ins]
        constructor
        · rintro (hy | hy)
          · exact .inl hy
          · exact .inr ⟨hy, hok⟩
        · rintro (hy | ⟨hy, _⟩)
          · exact .inl hy
          · exact .inr hy
    · refine (lay_id R p x (txt x) w hok).mono fun _ _ ⟨h1, h2⟩ => ?_
      subst h2
      refine ⟨14, h1, ⟨_, h1⟩, ChR.of_below hR (Below.refl _ _), vi, vt, ids, .inl rfl, .inl rfl, h, Nat.le_succ _, fun y => ⟨.inl, ?_⟩⟩
      rintro (hy | ⟨_, hy⟩)
      · exact hy
      · exact absurd hy hok

theorem up_tail {x : Nat} {a : List Nat} (h : Up (x :: a)) : Up a := fun i j u v hij hi hj => h (i + 1) (j + 1) u v (by omega) (by simpa using hi) (by simpa using hj)
theorem up_head {x : Nat} {a : List Nat} (h : Up (x :: a)) : ∀ z ∈ a, x < z := fun z hz => by
  obtain ⟨j, hj⟩ := List.getElem?_of_mem hz
  exact h 0 (j + 1) x z (by omega) (by simp) (by simpa using hj)
theorem up_ext : ∀ {a b : List Nat}, Up a → Up b → (∀ y, y ∈ a ↔ y ∈ b) → a = b
  | [], [], _, _, _ => rfl
  | [], y :: b, _, _, h => absurd ((h y).2 (by simp)) (by simp)
  | x :: a, [], _, _, h => absurd ((h x).1 (by simp)) (by simp)
  | x :: a, y :: b, ha, hb, h => by
    have hla := up_head ha
    have hlb := up_head hb
    have hxy : x = y := by
      have h1 := (h x).1 (by simp)
      have h2 := (h y).2 (by simp)
      simp only [List.mem_cons] at h1 h2
      rcases h1 with e | h1
      · exact e
      rcases h2 with e | h2
      · exact e.symm
      have := hlb x h1
      have := hla y h2
      omega
    subst hxy
    have : a = b := up_ext (up_tail ha) (up_tail hb) fun z => ⟨fun hz => by
      have := hla z hz
      have h1 := (h z).1 (List.mem_cons_of_mem _ hz)
      simp only [List.mem_cons] at h1
      rcases h1 with e | h1
      · omega
      · exact h1, fun hz => by
      have := hlb z hz
      have h1 := (h z).2 (List.mem_cons_of_mem _ hz)
      simp only [List.mem_cons] at h1
      rcases h1 with e | h1
      · omega
      · exact h1⟩
    rw [this]

def Own (R : Nat) (vi vt : Value) (g : Nat) : Prop := g = R ∨ vi.ownBlock = some g ∨ vt.ownBlock = some g
/-- Two racks lie apart. -/
def Apart (R : Nat) (vi vt : Value) (R2 : Nat) (vi2 vt2 : Value) : Prop := ∀ g, Own R vi vt g → Own R2 vi2 vt2 g → False
theorem Apart.symm {R R2 : Nat} {vi vt vi2 vt2 : Value} (h : Apart R vi vt R2 vi2 vt2) : Apart R2 vi2 vt2 R vi vt := fun g a b => h g b a
theorem IsR.own_lt {w : World} {R : Nat} {most : Int} {vi vt : Value} {ids : List Nat} {ths : List ByteArray} (h : IsR w R most vi vt ids ths) {g : Nat} (hg : Own R vi vt g) : g < w.heap.size := by
  rcases hg with rfl | hg | hg
  · exact lt_of_block h.row
  · exact (ownlt h.rio g hg).2
  · exact (ownlt h.rto g hg).2
theorem IsR.kept {w w' : World} {R R2 : Nat} {most : Int} {vi vt vi2 vt2 : Value} {ids : List Nat} {ths : List ByteArray} (h : IsR w R2 most vi2 vt2 ids ths) (hc : ChR R vi vt w w') (hap : Apart R vi vt R2 vi2 vt2) : IsR w' R2 most vi2 vt2 ids ths :=
  have k : ∀ g, Own R2 vi2 vt2 g → w'.heap[g]? = w.heap[g]? := fun g hg => hc.2.2 g (h.own_lt hg) (fun e => hap g (.inl e) hg) (fun e => hap g (.inr (.inl e.symm)) hg) (fun e => hap g (.inr (.inr e.symm)) hg)
  ⟨(k R2 (.inl rfl)).trans h.row, own_after h.rio fun g hg => k g (.inr (.inl hg)), own_after h.rto fun g hg => k g (.inr (.inr hg)), h.len, h.up, h.ok⟩
theorem Apart.step {w : World} {R R2 : Nat} {most : Int} {vi vt vi' vt' vi2 vt2 : Value} {ids : List Nat} {ths : List ByteArray} (hap : Apart R vi vt R2 vi2 vt2) (h2 : IsR w R2 most vi2 vt2 ids ths) (n1 : Nw w vi vi') (n2 : Nw w vt vt') : Apart R vi' vt' R2 vi2 vt2 := fun g hg hg2 => by
  have hlt := h2.own_lt hg2
  rcases hg with e | hg | hg
  · exact hap g (.inl e) hg2
  · rcases n1 with e | ⟨k, e, hk⟩
    · exact hap g (.inr (.inl (e.symm.trans hg))) hg2
    · rw [hg] at e
      injection e with e
      omega
  · rcases n2 with e | ⟨k, e, hk⟩
    · exact hap g (.inr (.inr (e.symm.trans hg))) hg2
    · rw [hg] at e
      injection e with e
      omega
end Go.Proofs.Ytbilkelbelimjaa.S
