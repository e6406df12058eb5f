/- Rack: a rack of things in memory; New, place, full. -/
import Derived.Test.YtemjmnpclknfaaaGreatT5
import Derived.Test.YtemjmnpclknfaaaGreatP6
namespace Go.Proofs.YtemjmnpclknfaaaGreat.T
open Go.RowKit
set_option maxRecDepth 20000

open Go.Proofs.YtemjmnpclknfaaaGreat.P (Sl un)
/-- What is kept at an id. -/
abbrev Mk : Type := Nat × Int × Sl × Int × Int
abbrev mC (a : Nat) (b : Int) (c : Sl) (d : Int) (e : Int) : Array Value := #[.int .u32 (a : Int), .int .i64 b, .slice c.a c.n c.c, .int .i64 d, .int .i64 e]
abbrev mV (a : Nat) (b : Int) (c : Sl) (d : Int) (e : Int) : Value := .agg (mC a b c d e)
abbrev mZ : Array Value := #[.int .u32 0, .int .i64 0, .slice none 0 0, .int .i64 0, .int .i64 0]
/-- Where the ids' row lies now: where it lay, or in a block that was made since. -/
def Fz (vi vi' : Value) (w : World) : Prop := ∀ g, vi'.ownBlock = some g → vi.ownBlock = some g ∨ w.heap.size ≤ g
def mz (l : List Mk) : List Value := l.flatMap fun m => [.int .u32 (m.1 : Int), .int .i64 m.2.1, .slice m.2.2.1.a m.2.2.1.n m.2.2.1.c, .int .i64 m.2.2.2.1, .int .i64 m.2.2.2.2]
theorem un_one (l : List Nat) : ∀ x ∈ un l, x.oneCell' = true := by
  intro x hx
  obtain ⟨n, _, rfl⟩ := List.mem_map.1 hx
  rfl
theorem mz_one (l : List Mk) : ∀ x ∈ mz l, x.oneCell' = true := by
  intro x hx
  obtain ⟨m, _, hm⟩ := List.mem_flatMap.1 hx
  simp at hm
  rcases hm with rfl | rfl | rfl | rfl | rfl <;> rfl
theorem mz_length (l : List Mk) : (mz l).length = l.length * 5 := by
  induction l with
  | nil => rfl
  | cons a l ih => simp only [mz, List.flatMap_cons, List.length_append, List.length_cons, List.length_nil] at ih ⊢; omega
theorem mz_take (l : List Mk) (p : Nat) : mz (l.take p) = (mz l).take (p * 5) := by
  induction l generalizing p with
  | nil => simp [mz]
  | cons a l ih =>
    rcases p with _ | p
    · simp [mz]
    · rw [List.take_succ_cons]
      simp only [mz, List.flatMap_cons] at ih ⊢
      rw [ih p, show (p + 1) * 5 = 5 + p * 5 by omega, List.take_append, List.take_of_length_le (i := 5 + p * 5) (by simp)]
      simp
theorem mz_drop (l : List Mk) (p : Nat) : mz (l.drop p) = (mz l).drop (p * 5) := by
  induction l generalizing p with
  | nil => simp [mz]
  | cons a l ih =>
    rcases p with _ | p
    · simp [mz]
    · rw [List.drop_succ_cons]
      simp only [mz, List.flatMap_cons] at ih ⊢
      rw [ih p, show (p + 1) * 5 = 5 + p * 5 by omega, List.drop_append, List.drop_of_length_le (i := 5 + p * 5) (by simp)]
      simp
theorem mz_get (l : List Mk) (p : Nat) (hp : p < l.length) : (mz l)[p * 5]? = some (.int .u32 (l[p].1 : Int)) ∧ (mz l)[p * 5 + 1]? = some (.int .i64 l[p].2.1) ∧ (mz l)[p * 5 + 2]? = some (.slice l[p].2.2.1.a l[p].2.2.1.n l[p].2.2.1.c) ∧ (mz l)[p * 5 + 3]? = some (.int .i64 l[p].2.2.2.1) ∧ (mz l)[p * 5 + 4]? = some (.int .i64 l[p].2.2.2.2) := by
  induction l generalizing p with
  | nil => simp at hp
  | cons a l ih =>
    rcases p with _ | p
    · simp [mz]
    · have h := ih p (by simpa using hp)
      simp only [mz, List.flatMap_cons] at h ⊢
      rw [show (p + 1) * 5 = 5 + p * 5 by omega]
      refine ⟨?_, ?_, ?_, ?_, ?_⟩
      · rw [List.getElem?_append_right (by simp)]
        simp only [List.length_cons, List.length_nil]
        rw [show 5 + p * 5 - (0 + 1 + 1 + 1 + 1 + 1) = p * 5 by omega]
        simpa using h.1
      · rw [List.getElem?_append_right (by simp; omega)]
        simp only [List.length_cons, List.length_nil]
        rw [show 5 + p * 5 + 1 - (0 + 1 + 1 + 1 + 1 + 1) = p * 5 + 1 by omega]
        simpa using h.2.1
      · rw [List.getElem?_append_right (by simp; omega)]
        simp only [List.length_cons, List.length_nil]
        rw [show 5 + p * 5 + 2 - (0 + 1 + 1 + 1 + 1 + 1) = p * 5 + 2 by omega]
        simpa using h.2.2.1
      · rw [List.getElem?_append_right (by simp; omega)]
        simp only [List.length_cons, List.length_nil]
        rw [show 5 + p * 5 + 3 - (0 + 1 + 1 + 1 + 1 + 1) = p * 5 + 3 by omega]
        simpa using h.2.2.2.1
      · rw [List.getElem?_append_right (by simp; omega)]
        simp only [List.length_cons, List.length_nil]
        rw [show 5 + p * 5 + 4 - (0 + 1 + 1 + 1 + 1 + 1) = p * 5 + 4 by omega]
        simpa using h.2.2.2.2
theorem own_after {w w' : World} {base T m S : Nat} {v : Value} {xs : List Value} (h : w.ownsRow base T S v m xs) (hb : ∀ g, v.ownBlock = some g → w'.heap[g]? = w.heap[g]?) : w'.ownsRow base T S v m xs := by
  refine ⟨h.1, ?_⟩
  rcases h.2 with hn | ⟨g, cap, cur, rfl, hbg, hg, rest⟩
  · exact .inl hn
  · exact .inr ⟨g, cap, cur, rfl, hbg, (hb g rfl).trans hg, rest⟩
/-- A rack in block R: its numbers stand at vi, its things at vt. -/
structure IsR (w : World) (R : Nat) (most : Int) (vi vt : Value) (ids : List Nat) (ths : List Mk) : Prop where
  row : w.heap[R]? = some (.cells #[.int .i64 most, vi, vt] 89 (0, 0))
  rio : w.ownsRow (R + 1) 33 1 vi ids.length (un ids)
  rto : w.ownsRow (R + 1) 39 5 vt ids.length (mz ths)
  len : ths.length = ids.length
  up : Up ids
  ok : ∀ x ∈ ids, 1 ≤ x ∧ x ≤ 2147483647
/-- What a call may change that turns the rack in R. -/
def ChR (R : Nat) (vi vt : Value) (w w' : World) : Prop := Below R w w' ∧ w.heap.size ≤ w'.heap.size ∧ ∀ g, g < w.heap.size → g ≠ R → some g ≠ vi.ownBlock → some g ≠ vt.ownBlock → w'.heap[g]? = w.heap[g]?
theorem ownlt {w : World} {base T m S : Nat} {v : Value} {xs : List Value} (h : w.ownsRow base T S v m xs) (g : Nat) (hg : v.ownBlock = some g) : base ≤ g ∧ g < w.heap.size := h.lt g hg
theorem IsR.after {w w' : World} {R : Nat} {most : Int} {vi vt : Value} {ids : List Nat} {ths : List Mk} (h : IsR w R most vi vt ids ths) (hb : Below w.heap.size w w') : IsR w' R most vi vt ids ths :=
  ⟨(hb.block R (lt_of_block h.row)).trans h.row, own_after h.rio fun g hg => hb.block g (ownlt h.rio g hg).2, own_after h.rto fun g hg => hb.block g (ownlt h.rto g hg).2, h.len, h.up, h.ok⟩
theorem ChR.of_below {R : Nat} {vi vt : Value} {w w' : World} (hR : R ≤ w.heap.size) (h : Below w.heap.size w w') : ChR R vi vt w w' := ⟨h.mono hR, h.size, fun g hg _ _ _ => h.block g hg⟩

set_option maxHeartbeats 1000000 in
theorem new_any (m : Int) (w : World) : Calls Tryz.prog 24 #[.int .i64 m] w fun r w' => r = .returned (.pointer (some ⟨w.heap.size, 0, none⟩)) ∧ IsR w' w.heap.size (max m 0) (.slice none 0 0) (.slice none 0 0) [] [] ∧ Below w.heap.size w w' := by
  have hb := (Below.refl w.heap.size w).alloc (Nat.le_refl _) (.cells #[.int .i64 (max m 0), .slice none 0 0, .slice none 0 0] 89)
  have hq := heap_alloc_new w (.cells #[.int .i64 (max m 0), .slice none 0 0, .slice none 0 0] 89)
  have HR : Hid (IsR (w.alloc (.cells #[.int .i64 (max m 0), .slice none 0 0, .slice none 0 0] 89)) w.heap.size (max m 0) (.slice none 0 0) (.slice none 0 0) [] []) :=
    ⟨hq, World.ownsRow_nil _ _ 33 1, World.ownsRow_nil _ _ 39 5, rfl, fun i j x y _ h => by simp at h, fun x h => by simp at h⟩
  clear hq
  go_enter Tryz.func24, Tryz.ntmps24
  go_wp2
  all_goals
    go_ret
    exact ⟨rfl, HR.out, hb⟩

set_option maxHeartbeats 1000000 in
theorem search_nil (x : Nat) (w : World) : Calls Tryz.prog 58 #[.slice none 0 0, .int .u32 (x : Int)] w fun r w' => r = .returned (.tuple #[.int .i64 0, .bool false]) ∧ w' = w := by
  go_enter Tryz.func58, Tryz.ntmps58
  go_wp2_with fail
  refine wp_loop_rounds 1 ?_
  rw [rounds_succ]
  go_wp2
  exact bodyPost_ret (v := .tuple #[.int .i64 0, .bool false]) (by simp [results, Tryz.results58, go_sem]) rfl ⟨rfl, rfl⟩

/-- Where a number stands among rising ones, or would. -/
def Pl (ids : List Nat) (x p : Nat) : Prop := p ≤ ids.length ∧ (∀ j y, j < p → ids[j]? = some y → y < x) ∧ (∀ j y, p ≤ j → ids[j]? = some y → x ≤ y)
theorem At32.of_own {w : World} {base n c : Nat} {b : Nat} {ids : List Nat} (h : w.ownsRow base 33 1 (.slice (some ⟨b, 0, none⟩) n c) n (un ids)) : At32 w b 0 ids := fun j x hj => by
  have := h.cells (g := b) rfl j (.int .u32 (x : Int)) (by unfold un; rw [List.getElem?_map, hj]; rfl)
  rw [Go.WideShapes.add_plain] at this
  exact this
theorem searchR_any {w : World} {base : Nat} {v : Value} {ids : List Nat} (x : Nat) (h : w.ownsRow base 33 1 v ids.length (un ids)) (hl : ids.length ≤ 1000) (hu : Up ids) :
    Calls Tryz.prog 58 #[v, .int .u32 (x : Int)] w fun r w' => w' = w ∧ ∃ p : Nat, Pl ids x p ∧ r = .returned (.tuple #[.int .i64 (p : Int), .bool (decide (ids[p]? = some x))]) := by
  rcases h.2 with ⟨rfl, h0⟩ | ⟨g, cap, cur, rfl, hr⟩
  · have hi : ids = [] := List.length_eq_zero_iff.1 h0
    subst hi
    exact (search_nil x w).mono fun r w' ⟨h1, h2⟩ => ⟨h2, 0, ⟨Nat.le_refl _, fun j y hj => absurd hj (Nat.not_lt_zero j), fun j y _ hy => by simp at hy⟩, h1⟩
  · exact (search_any g 0 cap ids.length ids x w rfl hl hu (At32.of_own h)).mono fun r w' ⟨h1, p, h2, h3, h4, h5⟩ => ⟨h1, p, ⟨h2, h3, h4⟩, h5⟩

set_option maxHeartbeats 1000000 in
theorem place_any (R : Nat) (most : Int) (vi vt : Value) (ids : List Nat) (ths : List Mk) (x : Nat) (w : World) (h : IsR w R most vi vt ids ths) (hl : ids.length ≤ 1000) :
    Calls Tryz.prog 49 #[.pointer (some ⟨R, 0, none⟩), .int .u32 (x : Int)] w fun r w' => w' = w ∧ ∃ p : Nat, Pl ids x p ∧ r = .returned (.tuple #[.int .i64 (p : Int), .bool (decide (ids[p]? = some x))]) := by
  have c1 := cell_of_row w R 1 _ _ _ h.row
  simp at c1
  have HS := Lib.hid (searchR_any x h.rio hl h.up)
  clear h hl
  go_enter Tryz.func49, Tryz.ntmps49
  go_wp2_with fail
  refine HS.out.mono ?_
  rintro r w1 ⟨rfl, p, hp, rfl⟩
  have HP := Lib.hid hp
  clear hp
  go_wp2
  exact bodyPost_ret (v := .tuple #[.int .i64 (p : Int), .bool (decide (ids[p]? = some x))]) (by simp [results, Tryz.results49, go_sem]) rfl ⟨rfl, p, HP.out, rfl⟩

set_option maxHeartbeats 2000000 in
theorem full_any (R : Nat) (most : Int) (vi vt : Value) (ids : List Nat) (ths : List Mk) (w : World) (h : IsR w R most vi vt ids ths) :
    Calls Tryz.prog 75 #[.pointer (some ⟨R, 0, none⟩)] w fun r w' => r = .returned (.bool (decide (min most 2147483647 ≤ ids.length))) ∧ Below w.heap.size w w' := by
  have hvi : ∃ A c, vi = .slice A ids.length c := by
    rcases h.rio.2 with ⟨rfl, h0⟩ | ⟨g, cap, cur, rfl, _⟩
    · exact ⟨none, 0, by rw [h0]⟩
    · exact ⟨_, cap, rfl⟩
  obtain ⟨A, c, rfl⟩ := hvi
  obtain ⟨n, hn⟩ : ∃ n, n = ids.length := ⟨_, rfl⟩
  rw [← hn] at h ⊢
  have c0 := cell_of_row w R 0 _ _ _ h.row
  have c1 := cell_of_row w R 1 _ _ _ h.row
  simp at c0 c1
  have hb : Below w.heap.size w w := Below.refl _ _
  clear h hn
  by_cases hm : (2147483647 : Int) < most
  · have e : min most 2147483647 = 2147483647 := by omega
    rw [e]
    go_enter Tryz.func75, Tryz.ntmps75
    go_upto_region 1 with (fail)
    have HSr : Hid ((fun W : World => W.cell? ⟨R, 0, none⟩ = some (.int .i64 most) ∧ W.cell? ⟨R, 1, none⟩ = some (.slice A n c)) w.drew) := ⟨c0, c1⟩
    refine wp_region_held_drew (S := fun W : World => W.cell? ⟨R, 0, none⟩ = some (.int .i64 most) ∧ W.cell? ⟨R, 1, none⟩ = some (.slice A n c)) (by kernel_rfl) HSr.out (fun hHeld => ?_)
    obtain ⟨V0, hV0⟩ : ∃ V0, V0 = w.drew := ⟨_, rfl⟩
    have HV0 : Hid (Below w.heap.size w V0) := by rw [hV0]; exact hb.drew
    rw [← hV0] at hHeld HSr ⊢
    clear hV0
    refine wpAnyH_take (i := 0) (oi := ?oi0a) (v := ?v0a) ?hi0a ?hs0a ?hf0a ?hr0a ?hQ0a ?hy0a ?hS0a ?h0a
    case hi0a => exact (by simp only [List.getElem?_toArray, List.getElem?_cons_zero]; rfl)
    case hs0a => kernel_rfl
    case hf0a => kernel_rfl
    case hr0a => kernel_rfl
    case hQ0a => exact fun _ _ _ h => h
    case hy0a =>
      refine Or.inl ⟨rfl, ?_⟩
      intro W hSw
      obtain ⟨y0, y1⟩ := hSw
      go_simp
      try with_reducible rfl
    case hS0a => assumption
    try simp only [Act.put, List.setIfInBounds_toArray, List.set_cons_zero, List.set_cons_succ]
    refine wpAnyH_take (i := 1) (oi := ?oi1a) (v := ?v1a) ?hi1a ?hs1a ?hf1a ?hr1a ?hQ1a ?hy1a ?hS1a ?h1a
    case hi1a => exact (by simp only [List.getElem?_toArray, List.getElem?_cons_succ, List.getElem?_cons_zero]; rfl)
    case hs1a => kernel_rfl
    case hf1a => kernel_rfl
    case hr1a => kernel_rfl
    case hQ1a => exact fun _ _ _ h => h
    case hy1a =>
      refine Or.inl ⟨rfl, ?_⟩
      intro W hSw
      obtain ⟨y0, y1⟩ := hSw
      go_simp
      try with_reducible rfl
    case hS1a => assumption
    try simp only [Act.put, List.setIfInBounds_toArray, List.set_cons_zero, List.set_cons_succ]
    refine wpAnyH_take (i := 2) (oi := ?oi2a) (v := ?v2a) ?hi2a ?hs2a ?hf2a ?hr2a ?hQ2a ?hy2a ?hS2a ?h2a
    case hi2a => exact (by simp only [List.getElem?_toArray, List.getElem?_cons_succ, List.getElem?_cons_zero]; rfl)
    case hs2a => kernel_rfl
    case hf2a => kernel_rfl
    case hr2a => kernel_rfl
    case hQ2a => exact fun _ _ _ h => h
    case hy2a =>
      refine Or.inl ⟨rfl, ?_⟩
      intro W hSw
      obtain ⟨y0, y1⟩ := hSw
      go_simp
      try with_reducible rfl
    case hS2a => assumption
    try simp only [Act.put, List.setIfInBounds_toArray, List.set_cons_zero, List.set_cons_succ]
    refine wpAnyH_take (i := 3) (oi := ?oi3a) (v := ?v3a) ?hi3a ?hs3a ?hf3a ?hr3a ?hQ3a ?hy3a ?hS3a ?h3a
    case hi3a => exact (by simp only [List.getElem?_toArray, List.getElem?_cons_succ, List.getElem?_cons_zero]; rfl)
    case hs3a => kernel_rfl
    case hf3a => kernel_rfl
    case hr3a => kernel_rfl
    case hQ3a => exact fun _ _ _ h => h
    case hy3a =>
      refine Or.inl ⟨rfl, ?_⟩
      intro W hSw
      obtain ⟨y0, y1⟩ := hSw
      go_simp
      try with_reducible rfl
    case hS3a => assumption
    try simp only [Act.put, List.setIfInBounds_toArray, List.set_cons_zero, List.set_cons_succ]
    refine wpAnyH_take (i := 4) (oi := ?oi4a) (v := ?v4a) ?hi4a ?hs4a ?hf4a ?hr4a ?hQ4a ?hy4a ?hS4a ?h4a
    case hi4a => exact (by simp only [List.getElem?_toArray, List.getElem?_cons_succ, List.getElem?_cons_zero]; rfl)
    case hs4a => kernel_rfl
    case hf4a => kernel_rfl
    case hr4a => kernel_rfl
    case hQ4a => exact fun _ _ _ h => h
    case hy4a =>
      refine Or.inl ⟨rfl, ?_⟩
      intro W hSw
      obtain ⟨y0, y1⟩ := hSw
      go_simp
      try with_reducible rfl
    case hS4a => assumption
    try simp only [Act.put, List.setIfInBounds_toArray, List.set_cons_zero, List.set_cons_succ]
    refine wpAnyH_take (i := 5) (oi := ?oi5a) (v := ?v5a) ?hi5a ?hs5a ?hf5a ?hr5a ?hQ5a ?hy5a ?hS5a ?h5a
    case hi5a => exact (by simp only [List.getElem?_toArray, List.getElem?_cons_succ, List.getElem?_cons_zero]; rfl)
    case hs5a => kernel_rfl
    case hf5a => kernel_rfl
    case hr5a => kernel_rfl
    case hQ5a => exact fun _ _ _ h => h
    case hy5a =>
      refine Or.inl ⟨rfl, ?_⟩
      intro W hSw
      obtain ⟨y0, y1⟩ := hSw
      go_simp
      try with_reducible rfl
    case hS5a => assumption
    try simp only [Act.put, List.setIfInBounds_toArray, List.set_cons_zero, List.set_cons_succ]
    refine wpAnyH_take (i := 6) (oi := ?oi6a) (v := ?v6a) ?hi6a ?hs6a ?hf6a ?hr6a ?hQ6a ?hy6a ?hS6a ?h6a
    case hi6a => exact (by simp only [List.getElem?_toArray, List.getElem?_cons_succ, List.getElem?_cons_zero]; rfl)
    case hs6a => kernel_rfl
    case hf6a => kernel_rfl
    case hr6a => kernel_rfl
    case hQ6a => exact fun _ _ _ h => h
    case hy6a =>
      refine Or.inl ⟨rfl, ?_⟩
      intro W hSw
      obtain ⟨y0, y1⟩ := hSw
      go_simp
      try with_reducible rfl
    case hS6a => assumption
    try simp only [Act.put, List.setIfInBounds_toArray, List.set_cons_zero, List.set_cons_succ]
    refine wpAnyH_take (i := 7) (oi := ?oi7a) (v := ?v7a) ?hi7a ?hs7a ?hf7a ?hr7a ?hQ7a ?hy7a ?hS7a ?h7a
    case hi7a => exact (by simp only [List.getElem?_toArray, List.getElem?_cons_succ, List.getElem?_cons_zero]; rfl)
    case hs7a => kernel_rfl
    case hf7a => kernel_rfl
    case hr7a => kernel_rfl
    case hQ7a => exact fun _ _ _ h => h
    case hy7a =>
      refine Or.inl ⟨rfl, ?_⟩
      intro W hSw
      obtain ⟨y0, y1⟩ := hSw
      go_simp
      try with_reducible rfl
    case hS7a => assumption
    try simp only [Act.put, List.setIfInBounds_toArray, List.set_cons_zero, List.set_cons_succ]
    refine wpAnyH_take (i := 8) (oi := ?oi8a) (v := ?v8a) ?hi8a ?hs8a ?hf8a ?hr8a ?hQ8a ?hy8a ?hS8a ?h8a
    case hi8a => exact (by simp only [List.getElem?_toArray, List.getElem?_cons_succ, List.getElem?_cons_zero]; rfl)
    case hs8a => kernel_rfl
    case hf8a => kernel_rfl
    case hr8a => kernel_rfl
    case hQ8a => exact fun _ _ _ h => h
    case hy8a =>
      refine Or.inl ⟨rfl, ?_⟩
      intro W hSw
      obtain ⟨y0, y1⟩ := hSw
      go_simp
      try with_reducible rfl
    case hS8a => assumption
    try simp only [Act.put, List.setIfInBounds_toArray, List.set_cons_zero, List.set_cons_succ]
    refine wpAnyH_take (i := 9) (oi := ?oi9a) (v := (.int .i64 2147483647)) ?hi9a ?hs9a ?hf9a ?hr9a ?hQ9a ?hy9a ?hS9a ?h9a
    case hi9a => exact (by simp only [List.getElem?_toArray, List.getElem?_cons_succ, List.getElem?_cons_zero]; rfl)
    case hs9a => kernel_rfl
    case hf9a => kernel_rfl
    case hr9a => kernel_rfl
    case hQ9a => exact fun _ _ _ h => h
    case hy9a =>
      refine Or.inl ⟨rfl, ?_⟩
      intro W hSw
      obtain ⟨y0, y1⟩ := hSw
      go_simp
      try simp [hm]
    case hS9a => assumption
    try simp only [Act.put, List.setIfInBounds_toArray, List.set_cons_zero, List.set_cons_succ]
    refine wpAnyH_take (i := 10) (oi := ?oi10a) (v := ?v10a) ?hi10a ?hs10a ?hf10a ?hr10a ?hQ10a ?hy10a ?hS10a ?h10a
    case hi10a => exact (by simp only [List.getElem?_toArray, List.getElem?_cons_succ, List.getElem?_cons_zero]; rfl)
    case hs10a => kernel_rfl
    case hf10a => kernel_rfl
    case hr10a => kernel_rfl
    case hQ10a => exact fun _ _ _ h => h
    case hy10a =>
      refine Or.inl ⟨rfl, ?_⟩
      intro W hSw
      obtain ⟨y0, y1⟩ := hSw
      go_simp
      try with_reducible rfl
    case hS10a => assumption
    try simp only [Act.put, List.setIfInBounds_toArray, List.set_cons_zero, List.set_cons_succ]
    refine wpAnyH_take (i := 11) (oi := ?oi11a) (v := ?v11a) ?hi11a ?hs11a ?hf11a ?hr11a ?hQ11a ?hy11a ?hS11a ?h11a
    case hi11a => exact (by simp only [List.getElem?_toArray, List.getElem?_cons_succ, List.getElem?_cons_zero]; rfl)
    case hs11a => kernel_rfl
    case hf11a => kernel_rfl
    case hr11a => kernel_rfl
    case hQ11a => exact fun _ _ _ h => h
    case hy11a =>
      refine Or.inl ⟨rfl, ?_⟩
      intro W hSw
      obtain ⟨y0, y1⟩ := hSw
      go_simp
      try with_reducible rfl
    case hS11a => assumption
    try simp only [Act.put, List.setIfInBounds_toArray, List.set_cons_zero, List.set_cons_succ]
    refine wpAnyH_done (by kernel_rfl) ?_ _
    try go_wp2
    go_ret
    exact ⟨rfl, HV0.out⟩
  · have e : min most 2147483647 = most := by omega
    rw [e]
    go_enter Tryz.func75, Tryz.ntmps75
    go_upto_region 1 with (fail)
    have HSr : Hid ((fun W : World => W.cell? ⟨R, 0, none⟩ = some (.int .i64 most) ∧ W.cell? ⟨R, 1, none⟩ = some (.slice A n c)) w.drew) := ⟨c0, c1⟩
    refine wp_region_held_drew (S := fun W : World => W.cell? ⟨R, 0, none⟩ = some (.int .i64 most) ∧ W.cell? ⟨R, 1, none⟩ = some (.slice A n c)) (by kernel_rfl) HSr.out (fun hHeld => ?_)
    obtain ⟨V0, hV0⟩ : ∃ V0, V0 = w.drew := ⟨_, rfl⟩
    have HV0 : Hid (Below w.heap.size w V0) := by rw [hV0]; exact hb.drew
    rw [← hV0] at hHeld HSr ⊢
    clear hV0
    refine wpAnyH_take (i := 0) (oi := ?oi0b) (v := ?v0b) ?hi0b ?hs0b ?hf0b ?hr0b ?hQ0b ?hy0b ?hS0b ?h0b
    case hi0b => exact (by simp only [List.getElem?_toArray, List.getElem?_cons_zero]; rfl)
    case hs0b => kernel_rfl
    case hf0b => kernel_rfl
    case hr0b => kernel_rfl
    case hQ0b => exact fun _ _ _ h => h
    case hy0b =>
      refine Or.inl ⟨rfl, ?_⟩
      intro W hSw
      obtain ⟨y0, y1⟩ := hSw
      go_simp
      try with_reducible rfl
    case hS0b => assumption
    try simp only [Act.put, List.setIfInBounds_toArray, List.set_cons_zero, List.set_cons_succ]
    refine wpAnyH_take (i := 1) (oi := ?oi1b) (v := ?v1b) ?hi1b ?hs1b ?hf1b ?hr1b ?hQ1b ?hy1b ?hS1b ?h1b
    case hi1b => exact (by simp only [List.getElem?_toArray, List.getElem?_cons_succ, List.getElem?_cons_zero]; rfl)
    case hs1b => kernel_rfl
    case hf1b => kernel_rfl
    case hr1b => kernel_rfl
    case hQ1b => exact fun _ _ _ h => h
    case hy1b =>
      refine Or.inl ⟨rfl, ?_⟩
      intro W hSw
      obtain ⟨y0, y1⟩ := hSw
      go_simp
      try with_reducible rfl
    case hS1b => assumption
    try simp only [Act.put, List.setIfInBounds_toArray, List.set_cons_zero, List.set_cons_succ]
    refine wpAnyH_take (i := 2) (oi := ?oi2b) (v := ?v2b) ?hi2b ?hs2b ?hf2b ?hr2b ?hQ2b ?hy2b ?hS2b ?h2b
    case hi2b => exact (by simp only [List.getElem?_toArray, List.getElem?_cons_succ, List.getElem?_cons_zero]; rfl)
    case hs2b => kernel_rfl
    case hf2b => kernel_rfl
    case hr2b => kernel_rfl
    case hQ2b => exact fun _ _ _ h => h
    case hy2b =>
      refine Or.inl ⟨rfl, ?_⟩
      intro W hSw
      obtain ⟨y0, y1⟩ := hSw
      go_simp
      try with_reducible rfl
    case hS2b => assumption
    try simp only [Act.put, List.setIfInBounds_toArray, List.set_cons_zero, List.set_cons_succ]
    refine wpAnyH_take (i := 3) (oi := ?oi3b) (v := ?v3b) ?hi3b ?hs3b ?hf3b ?hr3b ?hQ3b ?hy3b ?hS3b ?h3b
    case hi3b => exact (by simp only [List.getElem?_toArray, List.getElem?_cons_succ, List.getElem?_cons_zero]; rfl)
    case hs3b => kernel_rfl
    case hf3b => kernel_rfl
    case hr3b => kernel_rfl
    case hQ3b => exact fun _ _ _ h => h
    case hy3b =>
      refine Or.inl ⟨rfl, ?_⟩
      intro W hSw
      obtain ⟨y0, y1⟩ := hSw
      go_simp
      try with_reducible rfl
    case hS3b => assumption
    try simp only [Act.put, List.setIfInBounds_toArray, List.set_cons_zero, List.set_cons_succ]
    refine wpAnyH_take (i := 4) (oi := ?oi4b) (v := ?v4b) ?hi4b ?hs4b ?hf4b ?hr4b ?hQ4b ?hy4b ?hS4b ?h4b
    case hi4b => exact (by simp only [List.getElem?_toArray, List.getElem?_cons_succ, List.getElem?_cons_zero]; rfl)
    case hs4b => kernel_rfl
    case hf4b => kernel_rfl
    case hr4b => kernel_rfl
    case hQ4b => exact fun _ _ _ h => h
    case hy4b =>
      refine Or.inl ⟨rfl, ?_⟩
      intro W hSw
      obtain ⟨y0, y1⟩ := hSw
      go_simp
      try with_reducible rfl
    case hS4b => assumption
    try simp only [Act.put, List.setIfInBounds_toArray, List.set_cons_zero, List.set_cons_succ]
    refine wpAnyH_take (i := 5) (oi := ?oi5b) (v := ?v5b) ?hi5b ?hs5b ?hf5b ?hr5b ?hQ5b ?hy5b ?hS5b ?h5b
    case hi5b => exact (by simp only [List.getElem?_toArray, List.getElem?_cons_succ, List.getElem?_cons_zero]; rfl)
    case hs5b => kernel_rfl
    case hf5b => kernel_rfl
    case hr5b => kernel_rfl
    case hQ5b => exact fun _ _ _ h => h
    case hy5b =>
      refine Or.inl ⟨rfl, ?_⟩
      intro W hSw
      obtain ⟨y0, y1⟩ := hSw
      go_simp
      try with_reducible rfl
    case hS5b => assumption
    try simp only [Act.put, List.setIfInBounds_toArray, List.set_cons_zero, List.set_cons_succ]
    refine wpAnyH_take (i := 6) (oi := ?oi6b) (v := ?v6b) ?hi6b ?hs6b ?hf6b ?hr6b ?hQ6b ?hy6b ?hS6b ?h6b
    case hi6b => exact (by simp only [List.getElem?_toArray, List.getElem?_cons_succ, List.getElem?_cons_zero]; rfl)
    case hs6b => kernel_rfl
    case hf6b => kernel_rfl
    case hr6b => kernel_rfl
    case hQ6b => exact fun _ _ _ h => h
    case hy6b =>
      refine Or.inl ⟨rfl, ?_⟩
      intro W hSw
      obtain ⟨y0, y1⟩ := hSw
      go_simp
      try with_reducible rfl
    case hS6b => assumption
    try simp only [Act.put, List.setIfInBounds_toArray, List.set_cons_zero, List.set_cons_succ]
    refine wpAnyH_take (i := 7) (oi := ?oi7b) (v := ?v7b) ?hi7b ?hs7b ?hf7b ?hr7b ?hQ7b ?hy7b ?hS7b ?h7b
    case hi7b => exact (by simp only [List.getElem?_toArray, List.getElem?_cons_succ, List.getElem?_cons_zero]; rfl)
    case hs7b => kernel_rfl
    case hf7b => kernel_rfl
    case hr7b => kernel_rfl
    case hQ7b => exact fun _ _ _ h => h
    case hy7b =>
      refine Or.inl ⟨rfl, ?_⟩
      intro W hSw
      obtain ⟨y0, y1⟩ := hSw
      go_simp
      try with_reducible rfl
    case hS7b => assumption
    try simp only [Act.put, List.setIfInBounds_toArray, List.set_cons_zero, List.set_cons_succ]
    refine wpAnyH_take (i := 8) (oi := ?oi8b) (v := ?v8b) ?hi8b ?hs8b ?hf8b ?hr8b ?hQ8b ?hy8b ?hS8b ?h8b
    case hi8b => exact (by simp only [List.getElem?_toArray, List.getElem?_cons_succ, List.getElem?_cons_zero]; rfl)
    case hs8b => kernel_rfl
    case hf8b => kernel_rfl
    case hr8b => kernel_rfl
    case hQ8b => exact fun _ _ _ h => h
    case hy8b =>
      refine Or.inl ⟨rfl, ?_⟩
      intro W hSw
      obtain ⟨y0, y1⟩ := hSw
      go_simp
      try with_reducible rfl
    case hS8b => assumption
    try simp only [Act.put, List.setIfInBounds_toArray, List.set_cons_zero, List.set_cons_succ]
    refine wpAnyH_take (i := 9) (oi := ?oi9b) (v := (.int .i64 most)) ?hi9b ?hs9b ?hf9b ?hr9b ?hQ9b ?hy9b ?hS9b ?h9b
    case hi9b => exact (by simp only [List.getElem?_toArray, List.getElem?_cons_succ, List.getElem?_cons_zero]; rfl)
    case hs9b => kernel_rfl
    case hf9b => kernel_rfl
    case hr9b => kernel_rfl
    case hQ9b => exact fun _ _ _ h => h
    case hy9b =>
      refine Or.inl ⟨rfl, ?_⟩
      intro W hSw
      obtain ⟨y0, y1⟩ := hSw
      go_simp
      try simp [hm]
    case hS9b => assumption
    try simp only [Act.put, List.setIfInBounds_toArray, List.set_cons_zero, List.set_cons_succ]
    refine wpAnyH_take (i := 10) (oi := ?oi10b) (v := ?v10b) ?hi10b ?hs10b ?hf10b ?hr10b ?hQ10b ?hy10b ?hS10b ?h10b
    case hi10b => exact (by simp only [List.getElem?_toArray, List.getElem?_cons_succ, List.getElem?_cons_zero]; rfl)
    case hs10b => kernel_rfl
    case hf10b => kernel_rfl
    case hr10b => kernel_rfl
    case hQ10b => exact fun _ _ _ h => h
    case hy10b =>
      refine Or.inl ⟨rfl, ?_⟩
      intro W hSw
      obtain ⟨y0, y1⟩ := hSw
      go_simp
      try with_reducible rfl
    case hS10b => assumption
    try simp only [Act.put, List.setIfInBounds_toArray, List.set_cons_zero, List.set_cons_succ]
    refine wpAnyH_take (i := 11) (oi := ?oi11b) (v := ?v11b) ?hi11b ?hs11b ?hf11b ?hr11b ?hQ11b ?hy11b ?hS11b ?h11b
    case hi11b => exact (by simp only [List.getElem?_toArray, List.getElem?_cons_succ, List.getElem?_cons_zero]; rfl)
    case hs11b => kernel_rfl
    case hf11b => kernel_rfl
    case hr11b => kernel_rfl
    case hQ11b => exact fun _ _ _ h => h
    case hy11b =>
      refine Or.inl ⟨rfl, ?_⟩
      intro W hSw
      obtain ⟨y0, y1⟩ := hSw
      go_simp
      try with_reducible rfl
    case hS11b => assumption
    try simp only [Act.put, List.setIfInBounds_toArray, List.set_cons_zero, List.set_cons_succ]
    refine wpAnyH_done (by kernel_rfl) ?_ _
    try go_wp2
    go_ret
    exact ⟨rfl, HV0.out⟩

set_option maxHeartbeats 1000000 in
theorem right_any (x : Nat) (w : World) : Calls Tryz.prog 29 #[.int .u32 (x : Int)] w fun r w' => r = .returned (.bool (decide (1 ≤ x ∧ x ≤ 2147483647))) ∧ w' = w := by
  by_cases h1 : 1 ≤ x <;> by_cases h2 : x ≤ 2147483647 <;>
  (go_enter Tryz.func29, Tryz.ntmps29
   go_wp2
   all_goals go_ret
   all_goals simp [h1, h2]
   all_goals omega)
theorem pl_up {ids : List Nat} {x p : Nat} (hu : Up ids) (hp : Pl ids x p) (hx : ids[p]? ≠ some x) : Up (ids.take p ++ [x] ++ ids.drop p) := by
  obtain ⟨h1, h2, h3⟩ := hp
  have get : ∀ j, (ids.take p ++ [x] ++ ids.drop p)[j]? = if j < p then ids[j]? else if j = p then some x else ids[j - 1]? := fun j => by
    have hl : (ids.take p).length = p := by rw [List.length_take]; omega
    have hl2 : (ids.take p ++ [x]).length = p + 1 := by rw [List.length_append, hl]; rfl
    by_cases hj : j < p
    · rw [if_pos hj, List.append_assoc, List.getElem?_append_left (by omega), List.getElem?_take, if_pos hj]
    · rw [if_neg hj]
      by_cases hj2 : j = p
      · subst hj2
        rw [if_pos rfl, List.getElem?_append_left (by omega), List.getElem?_append_right (by omega), hl]
        simp
      · rw [if_neg hj2, List.getElem?_append_right (by omega), hl2, List.getElem?_drop, show p + (j - (p + 1)) = j - 1 by omega]
  intro i j a b hij ha hb
  rw [get] at ha hb
  have hlt : ∀ k y, p ≤ k → ids[k]? = some y → x < y := fun k y hk hy => by
    have := h3 k y hk hy
    rcases Nat.lt_or_eq_of_le this with h | h
    · exact h
    · subst h
      by_cases hkp : k = p
      · subst hkp; exact absurd hy hx
      · obtain ⟨z, hz⟩ : ∃ z, ids[p]? = some z := ⟨ids[p]'(by have := (List.getElem?_eq_some_iff.1 hy).1; omega), List.getElem?_eq_getElem _⟩
        have h4 := hu p k z _ (by omega) hz hy
        have h5 := h3 p z (Nat.le_refl _) hz
        omega
  by_cases hi : i < p
  · rw [if_pos hi] at ha
    by_cases hj : j < p
    · rw [if_pos hj] at hb
      exact hu i j a b hij ha hb
    · rw [if_neg hj] at hb
      have hax := h2 i a hi ha
      by_cases hj2 : j = p
      · rw [if_pos hj2] at hb
        injection hb with hb
        omega
      · rw [if_neg hj2] at hb
        have := hlt (j - 1) b (by omega) hb
        omega
  · rw [if_neg hi] at ha
    rw [if_neg (by omega), if_neg (by omega)] at hb
    by_cases hi2 : i = p
    · rw [if_pos hi2] at ha
      injection ha with ha
      have := hlt (j - 1) b (by omega) hb
      omega
    · rw [if_neg hi2] at ha
      exact hu (i - 1) (j - 1) a b (by omega) ha hb
end Go.Proofs.YtemjmnpclknfaaaGreat.T
