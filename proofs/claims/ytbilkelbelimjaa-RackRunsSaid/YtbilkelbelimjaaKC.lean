/- Rack: a rack of bytes: New, place, full, lay, Add, Put. -/
import Derived.Test.YtbilkelbelimjaaKB
import Derived.Test.YtbilkelbelimjaaK7
namespace Go.Proofs.Ytbilkelbelimjaa.B
open Go.RowKit
set_option maxRecDepth 20000

def zn (l : List Int) : List Value := l.map (.int .u8)
theorem zn_one (l : List Int) : ∀ x ∈ zn l, x.oneCell' = true := by
  intro x hx
  obtain ⟨n, _, rfl⟩ := List.mem_map.1 hx
  rfl
/-- A rack in block R: its numbers stand at vi, its things at vt. -/
structure IsR (w : World) (R : Nat) (most : Int) (vi vt : Value) (ids : List Nat) (ths : List Int) : Prop where
  row : w.heap[R]? = some (.cells #[.int .i64 most, vi, vt] 110 (0, 0))
  rio : w.ownsRow (R + 1) 28 1 vi ids.length (un ids)
  rto : w.ownsRow (R + 1) 5 1 vt ids.length (zn ths)
  len : ths.length = ids.length
  up : Up ids
  ok : ∀ x ∈ ids, 1 ≤ x ∧ x ≤ 2147483647
/-- What a call may change that turns the rack in R. -/
def ChR (R : Nat) (vi vt : Value) (w w' : World) : Prop := Below R w w' ∧ w.heap.size ≤ w'.heap.size ∧ ∀ g, g < w.heap.size → g ≠ R → some g ≠ vi.ownBlock → some g ≠ vt.ownBlock → w'.heap[g]? = w.heap[g]?
theorem IsR.after {w w' : World} {R : Nat} {most : Int} {vi vt : Value} {ids : List Nat} {ths : List Int} (h : IsR w R most vi vt ids ths) (hb : Below w.heap.size w w') : IsR w' R most vi vt ids ths :=
  ⟨(hb.block R (lt_of_block h.row)).trans h.row, own_after h.rio fun g hg => hb.block g (ownlt h.rio g hg).2, own_after h.rto fun g hg => hb.block g (ownlt h.rto g hg).2, h.len, h.up, h.ok⟩
theorem ChR.of_below {R : Nat} {vi vt : Value} {w w' : World} (hR : R ≤ w.heap.size) (h : Below w.heap.size w w') : ChR R vi vt w w' := ⟨h.mono hR, h.size, fun g hg _ _ _ => h.block g hg⟩
set_option maxHeartbeats 1000000 in
theorem new_any (m : Int) (w : World) : Calls Try.prog 35 #[.int .i64 m] w fun r w' => r = .returned (.pointer (some ⟨w.heap.size, 0, none⟩)) ∧ IsR w' w.heap.size (max m 0) (.slice none 0 0) (.slice none 0 0) [] [] ∧ Below w.heap.size w w' := by
  have hb := (Below.refl w.heap.size w).alloc (Nat.le_refl _) (.cells #[.int .i64 (max m 0), .slice none 0 0, .slice none 0 0] 110)
  have hq := heap_alloc_new w (.cells #[.int .i64 (max m 0), .slice none 0 0, .slice none 0 0] 110)
  have HR : Hid (IsR (w.alloc (.cells #[.int .i64 (max m 0), .slice none 0 0, .slice none 0 0] 110)) w.heap.size (max m 0) (.slice none 0 0) (.slice none 0 0) [] []) :=
    ⟨hq, World.ownsRow_nil _ _ 28 1, World.ownsRow_nil _ _ 5 1, rfl, fun i j x y _ h => by simp at h, fun x h => by simp at h⟩
  clear hq
  go_enter Try.func35, Try.ntmps35
  go_wp2
  all_goals
    go_ret
    exact ⟨rfl, HR.out, hb⟩
set_option maxHeartbeats 1000000 in
theorem place_any (R : Nat) (most : Int) (vi vt : Value) (ids : List Nat) (ths : List Int) (x : Nat) (w : World) (h : IsR w R most vi vt ids ths) (hl : ids.length ≤ 1000) :
    Calls Try.prog 73 #[.pointer (some ⟨R, 0, none⟩), .int .u32 (x : Int)] w fun r w' => w' = w ∧ ∃ p : Nat, Pl ids x p ∧ r = .returned (.tuple #[.int .i64 (p : Int), .bool (decide (ids[p]? = some x))]) := by
  have c1 := cell_of_row w R 1 _ _ _ h.row
  simp at c1
  have HS := Lib.hid (searchR_any x h.rio hl h.up)
  clear h hl
  go_enter Try.func73, Try.ntmps73
  go_wp2_with fail
  refine HS.out.mono ?_
  rintro r w1 ⟨rfl, p, hp, rfl⟩
  have HP := Lib.hid hp
  clear hp
  go_wp2
  exact bodyPost_ret (v := .tuple #[.int .i64 (p : Int), .bool (decide (ids[p]? = some x))]) (by simp [results, Try.results73, go_sem]) rfl ⟨rfl, p, HP.out, rfl⟩
set_option maxHeartbeats 2000000 in
theorem full_any (R : Nat) (most : Int) (vi vt : Value) (ids : List Nat) (ths : List Int) (w : World) (h : IsR w R most vi vt ids ths) :
    Calls Try.prog 76 #[.pointer (some ⟨R, 0, none⟩)] w fun r w' => r = .returned (.bool (decide (min most 2147483647 ≤ ids.length))) ∧ Below w.heap.size w w' := by
  have hvi : ∃ A c, vi = .slice A ids.length c := by
    rcases h.rio.2 with ⟨rfl, h0⟩ | ⟨g, cap, cur, rfl, _⟩
    · exact ⟨none, 0, by rw [h0]⟩
    · exact ⟨_, cap, rfl⟩
  obtain ⟨A, c, rfl⟩ := hvi
  obtain ⟨n, hn⟩ : ∃ n, n = ids.length := ⟨_, rfl⟩
  rw [← hn] at h ⊢
  have c0 := cell_of_row w R 0 _ _ _ h.row
  have c1 := cell_of_row w R 1 _ _ _ h.row
  simp at c0 c1
  have hb : Below w.heap.size w w := Below.refl _ _
  clear h hn
  by_cases hm : (2147483647 : Int) < most
  · have e : min most 2147483647 = 2147483647 := by omega
    rw [e]
    go_enter Try.func76, Try.ntmps76
    go_upto_region 1 with (fail)
    have HSr : Hid ((fun W : World => W.cell? ⟨R, 0, none⟩ = some (.int .i64 most) ∧ W.cell? ⟨R, 1, none⟩ = some (.slice A n c)) w.drew) := ⟨c0, c1⟩
    refine wp_region_held_drew (S := fun W : World => W.cell? ⟨R, 0, none⟩ = some (.int .i64 most) ∧ W.cell? ⟨R, 1, none⟩ = some (.slice A n c)) (by kernel_rfl) HSr.out (fun hHeld => ?_)
    obtain ⟨V0, hV0⟩ : ∃ V0, V0 = w.drew := ⟨_, rfl⟩
    have HV0 : Hid (Below w.heap.size w V0) := by rw [hV0]; exact hb.drew
    rw [← hV0] at hHeld HSr ⊢
    clear hV0
    refine wpAnyH_take (i := 0) (oi := ?oi0a) (v := ?v0a) ?hi0a ?hs0a ?hf0a ?hr0a ?hQ0a ?hy0a ?hS0a ?h0a
    case hi0a => exact (by simp only [List.getElem?_toArray, List.getElem?_cons_zero]; rfl)
    case hs0a => kernel_rfl
    case hf0a => kernel_rfl
    case hr0a => kernel_rfl
    case hQ0a => exact fun _ _ _ h => h
    case hy0a =>
      refine Or.inl ⟨rfl, ?_⟩
      intro W hSw
      obtain ⟨y0, y1⟩ := hSw
      go_simp
      try with_reducible rfl
    case hS0a => assumption
    try simp only [Act.put, List.setIfInBounds_toArray, List.set_cons_zero, List.set_cons_succ]
    refine wpAnyH_take (i := 1) (oi := ?oi1a) (v := ?v1a) ?hi1a ?hs1a ?hf1a ?hr1a ?hQ1a ?hy1a ?hS1a ?h1a
    case hi1a => exact (by simp only [List.getElem?_toArray, List.getElem?_cons_succ, List.getElem?_cons_zero]; rfl)
    case hs1a => kernel_rfl
    case hf1a => kernel_rfl
    case hr1a => kernel_rfl
    case hQ1a => exact fun _ _ _ h => h
    case hy1a =>
      refine Or.inl ⟨rfl, ?_⟩
      intro W hSw
      obtain ⟨y0, y1⟩ := hSw
      go_simp
      try with_reducible rfl
    case hS1a => assumption
    try simp only [Act.put, List.setIfInBounds_toArray, List.set_cons_zero, List.set_cons_succ]
    refine wpAnyH_take (i := 2) (oi := ?oi2a) (v := ?v2a) ?hi2a ?hs2a ?hf2a ?hr2a ?hQ2a ?hy2a ?hS2a ?h2a
    case hi2a => exact (by simp only [List.getElem?_toArray, List.getElem?_cons_succ, List.getElem?_cons_zero]; rfl)
    case hs2a => kernel_rfl
    case hf2a => kernel_rfl
    case hr2a => kernel_rfl
    case hQ2a => exact fun _ _ _ h => h
    case hy2a =>
      refine Or.inl ⟨rfl, ?_⟩
      intro W hSw
      obtain ⟨y0, y1⟩ := hSw
      go_simp
      try with_reducible rfl
    case hS2a => assumption
    try simp only [Act.put, List.setIfInBounds_toArray, List.set_cons_zero, List.set_cons_succ]
    refine wpAnyH_take (i := 3) (oi := ?oi3a) (v := ?v3a) ?hi3a ?hs3a ?hf3a ?hr3a ?hQ3a ?hy3a ?hS3a ?h3a
    case hi3a => exact (by simp only [List.getElem?_toArray, List.getElem?_cons_succ, List.getElem?_cons_zero]; rfl)
    case hs3a => kernel_rfl
    case hf3a => kernel_rfl
    case hr3a => kernel_rfl
    case hQ3a => exact fun _ _ _ h => h
    case hy3a =>
      refine Or.inl ⟨rfl, ?_⟩
      intro W hSw
      obtain ⟨y0, y1⟩ := hSw
      go_simp
      try with_reducible rfl
    case hS3a => assumption
    try simp only [Act.put, List.setIfInBounds_toArray, List.set_cons_zero, List.set_cons_succ]
    refine wpAnyH_take (i := 4) (oi := ?oi4a) (v := ?v4a) ?hi4a ?hs4a ?hf4a ?hr4a ?hQ4a ?hy4a ?hS4a ?h4a
    case hi4a => exact (by simp only [List.getElem?_toArray, List.getElem?_cons_succ, List.getElem?_cons_zero]; rfl)
    case hs4a => kernel_rfl
    case hf4a => kernel_rfl
    case hr4a => kernel_rfl
    case hQ4a => exact fun _ _ _ h => h
    case hy4a =>
      refine Or.inl ⟨rfl, ?_⟩
      intro W hSw
      obtain ⟨y0, y1⟩ := hSw
      go_simp
      try with_reducible rfl
    case hS4a => assumption
    try simp only [Act.put, List.setIfInBounds_toArray, List.set_cons_zero, List.set_cons_succ]
    refine wpAnyH_take (i := 5) (oi := ?oi5a) (v := ?v5a) ?hi5a ?hs5a ?hf5a ?hr5a ?hQ5a ?hy5a ?hS5a ?h5a
    case hi5a => exact (by simp only [List.getElem?_toArray, List.getElem?_cons_succ, List.getElem?_cons_zero]; rfl)
    case hs5a => kernel_rfl
    case hf5a => kernel_rfl
    case hr5a => kernel_rfl
    case hQ5a => exact fun _ _ _ h => h
    case hy5a =>
      refine Or.inl ⟨rfl, ?_⟩
      intro W hSw
      obtain ⟨y0, y1⟩ := hSw
      go_simp
      try with_reducible rfl
    case hS5a => assumption
    try simp only [Act.put, List.setIfInBounds_toArray, List.set_cons_zero, List.set_cons_succ]
    refine wpAnyH_take (i := 6) (oi := ?oi6a) (v := ?v6a) ?hi6a ?hs6a ?hf6a ?hr6a ?hQ6a ?hy6a ?hS6a ?h6a
    case hi6a => exact (by simp only [List.getElem?_toArray, List.getElem?_cons_succ, List.getElem?_cons_zero]; rfl)
    case hs6a => kernel_rfl
    case hf6a => kernel_rfl
    case hr6a => kernel_rfl
    case hQ6a => exact fun _ _ _ h => h
    case hy6a =>
      refine Or.inl ⟨rfl, ?_⟩
      intro W hSw
      obtain ⟨y0, y1⟩ := hSw
      go_simp
      try with_reducible rfl
    case hS6a => assumption
    try simp only [Act.put, List.setIfInBounds_toArray, List.set_cons_zero, List.set_cons_succ]
    refine wpAnyH_take (i := 7) (oi := ?oi7a) (v := ?v7a) ?hi7a ?hs7a ?hf7a ?hr7a ?hQ7a ?hy7a ?hS7a ?h7a
    case hi7a => exact (by simp only [List.getElem?_toArray, List.getElem?_cons_succ, List.getElem?_cons_zero]; rfl)
    case hs7a => kernel_rfl
    case hf7a => kernel_rfl
    case hr7a => kernel_rfl
    case hQ7a => exact fun _ _ _ h => h
    case hy7a =>
      refine Or.inl ⟨rfl, ?_⟩
      intro W hSw
      obtain ⟨y0, y1⟩ := hSw
      go_simp
      try with_reducible rfl
    case hS7a => assumption
    try simp only [Act.put, List.setIfInBounds_toArray, List.set_cons_zero, List.set_cons_succ]
    refine wpAnyH_take (i := 8) (oi := ?oi8a) (v := ?v8a) ?hi8a ?hs8a ?hf8a ?hr8a ?hQ8a ?hy8a ?hS8a ?h8a
    case hi8a => exact (by simp only [List.getElem?_toArray, List.getElem?_cons_succ, List.getElem?_cons_zero]; rfl)
    case hs8a => kernel_rfl
    case hf8a => kernel_rfl
    case hr8a => kernel_rfl
    case hQ8a => exact fun _ _ _ h => h
    case hy8a =>
      refine Or.inl ⟨rfl, ?_⟩
      intro W hSw
      obtain ⟨y0, y1⟩ := hSw
      go_simp
      try with_reducible rfl
    case hS8a => assumption
    try simp only [Act.put, List.setIfInBounds_toArray, List.set_cons_zero, List.set_cons_succ]
    refine wpAnyH_take (i := 9) (oi := ?oi9a) (v := (.int .i64 2147483647)) ?hi9a ?hs9a ?hf9a ?hr9a ?hQ9a ?hy9a ?hS9a ?h9a
    case hi9a => exact (by simp only [List.getElem?_toArray, List.getElem?_cons_succ, List.getElem?_cons_zero]; rfl)
    case hs9a => kernel_rfl
    case hf9a => kernel_rfl
    case hr9a => kernel_rfl
    case hQ9a => exact fun _ _ _ h => h
    case hy9a =>
      refine Or.inl ⟨rfl, ?_⟩
      intro W hSw
      obtain ⟨y0, y1⟩ := hSw
      go_simp
      try simp [hm]
    case hS9a => assumption
    try simp only [Act.put, List.setIfInBounds_toArray, List.set_cons_zero, List.set_cons_succ]
    refine wpAnyH_take (i := 10) (oi := ?oi10a) (v := ?v10a) ?hi10a ?hs10a ?hf10a ?hr10a ?hQ10a ?hy10a ?hS10a ?h10a
    case hi10a => exact (by simp only [List.getElem?_toArray, List.getElem?_cons_succ, List.getElem?_cons_zero]; rfl)
    case hs10a => kernel_rfl
    case hf10a => kernel_rfl
    case hr10a => kernel_rfl
    case hQ10a => exact fun _ _ _ h => h
    case hy10a =>
      refine Or.inl ⟨rfl, ?_⟩
      intro W hSw
      obtain ⟨y0, y1⟩ := hSw
      go_simp
      try with_reducible rfl
    case hS10a => assumption
    try simp only [Act.put, List.setIfInBounds_toArray, List.set_cons_zero, List.set_cons_succ]
    refine wpAnyH_take (i := 11) (oi := ?oi11a) (v := ?v11a) ?hi11a ?hs11a ?hf11a ?hr11a ?hQ11a ?hy11a ?hS11a ?h11a
    case hi11a => exact (by simp only [List.getElem?_toArray, List.getElem?_cons_succ, List.getElem?_cons_zero]; rfl)
    case hs11a => kernel_rfl
    case hf11a => kernel_rfl
    case hr11a => kernel_rfl
    case hQ11a => exact fun _ _ _ h => h
    case hy11a =>
      refine Or.inl ⟨rfl, ?_⟩
      intro W hSw
      obtain ⟨y0, y1⟩ := hSw
      go_simp
      try with_reducible rfl
    case hS11a => assumption
    try simp only [Act.put, List.setIfInBounds_toArray, List.set_cons_zero, List.set_cons_succ]
    refine wpAnyH_done (by kernel_rfl) ?_ _
    try go_wp2
    go_ret
    exact ⟨rfl, HV0.out⟩
  · have e : min most 2147483647 = most := by omega
    rw [e]
    go_enter Try.func76, Try.ntmps76
    go_upto_region 1 with (fail)
    have HSr : Hid ((fun W : World => W.cell? ⟨R, 0, none⟩ = some (.int .i64 most) ∧ W.cell? ⟨R, 1, none⟩ = some (.slice A n c)) w.drew) := ⟨c0, c1⟩
    refine wp_region_held_drew (S := fun W : World => W.cell? ⟨R, 0, none⟩ = some (.int .i64 most) ∧ W.cell? ⟨R, 1, none⟩ = some (.slice A n c)) (by kernel_rfl) HSr.out (fun hHeld => ?_)
    obtain ⟨V0, hV0⟩ : ∃ V0, V0 = w.drew := ⟨_, rfl⟩
    have HV0 : Hid (Below w.heap.size w V0) := by rw [hV0]; exact hb.drew
    rw [← hV0] at hHeld HSr ⊢
    clear hV0
    refine wpAnyH_take (i := 0) (oi := ?oi0b) (v := ?v0b) ?hi0b ?hs0b ?hf0b ?hr0b ?hQ0b ?hy0b ?hS0b ?h0b
    case hi0b => exact (by simp only [List.getElem?_toArray, List.getElem?_cons_zero]; rfl)
    case hs0b => kernel_rfl
    case hf0b => kernel_rfl
    case hr0b => kernel_rfl
    case hQ0b => exact fun _ _ _ h => h
    case hy0b =>
      refine Or.inl ⟨rfl, ?_⟩
      intro W hSw
      obtain ⟨y0, y1⟩ := hSw
      go_simp
      try with_reducible rfl
    case hS0b => assumption
    try simp only [Act.put, List.setIfInBounds_toArray, List.set_cons_zero, List.set_cons_succ]
    refine wpAnyH_take (i := 1) (oi := ?oi1b) (v := ?v1b) ?hi1b ?hs1b ?hf1b ?hr1b ?hQ1b ?hy1b ?hS1b ?h1b
    case hi1b => exact (by simp only [List.getElem?_toArray, List.getElem?_cons_succ, List.getElem?_cons_zero]; rfl)
    case hs1b => kernel_rfl
    case hf1b => kernel_rfl
    case hr1b => kernel_rfl
    case hQ1b => exact fun _ _ _ h => h
    case hy1b =>
      refine Or.inl ⟨rfl, ?_⟩
      intro W hSw
      obtain ⟨y0, y1⟩ := hSw
      go_simp
      try with_reducible rfl
    case hS1b => assumption
    try simp only [Act.put, List.setIfInBounds_toArray, List.set_cons_zero, List.set_cons_succ]
    refine wpAnyH_take (i := 2) (oi := ?oi2b) (v := ?v2b) ?hi2b ?hs2b ?hf2b ?hr2b ?hQ2b ?hy2b ?hS2b ?h2b
    case hi2b => exact (by simp only [List.getElem?_toArray, List.getElem?_cons_succ, List.getElem?_cons_zero]; rfl)
    case hs2b => kernel_rfl
    case hf2b => kernel_rfl
    case hr2b => kernel_rfl
    case hQ2b => exact fun _ _ _ h => h
    case hy2b =>
      refine Or.inl ⟨rfl, ?_⟩
      intro W hSw
      obtain ⟨y0, y1⟩ := hSw
      go_simp
      try with_reducible rfl
    case hS2b => assumption
    try simp only [Act.put, List.setIfInBounds_toArray, List.set_cons_zero, List.set_cons_succ]
    refine wpAnyH_take (i := 3) (oi := ?oi3b) (v := ?v3b) ?hi3b ?hs3b ?hf3b ?hr3b ?hQ3b ?hy3b ?hS3b ?h3b
    case hi3b => exact (by simp only [List.getElem?_toArray, List.getElem?_cons_succ, List.getElem?_cons_zero]; rfl)
    case hs3b => kernel_rfl
    case hf3b => kernel_rfl
    case hr3b => kernel_rfl
    case hQ3b => exact fun _ _ _ h => h
    case hy3b =>
      refine Or.inl ⟨rfl, ?_⟩
      intro W hSw
      obtain ⟨y0, y1⟩ := hSw
      go_simp
      try with_reducible rfl
    case hS3b => assumption
    try simp only [Act.put, List.setIfInBounds_toArray, List.set_cons_zero, List.set_cons_succ]
    refine wpAnyH_take (i := 4) (oi := ?oi4b) (v := ?v4b) ?hi4b ?hs4b ?hf4b ?hr4b ?hQ4b ?hy4b ?hS4b ?h4b
    case hi4b => exact (by simp only [List.getElem?_toArray, List.getElem?_cons_succ, List.getElem?_cons_zero]; rfl)
    case hs4b => kernel_rfl
    case hf4b => kernel_rfl
    case hr4b => kernel_rfl
    case hQ4b => exact fun _ _ _ h => h
    case hy4b =>
      refine Or.inl ⟨rfl, ?_⟩
      intro W hSw
      obtain ⟨y0, y1⟩ := hSw
      go_simp
      try with_reducible rfl
    case hS4b => assumption
    try simp only [Act.put, List.setIfInBounds_toArray, List.set_cons_zero, List.set_cons_succ]
    refine wpAnyH_take (i := 5) (oi := ?oi5b) (v := ?v5b) ?hi5b ?hs5b ?hf5b ?hr5b ?hQ5b ?hy5b ?hS5b ?h5b
    case hi5b => exact (by simp only [List.getElem?_toArray, List.getElem?_cons_succ, List.getElem?_cons_zero]; rfl)
    case hs5b => kernel_rfl
    case hf5b => kernel_rfl
    case hr5b => kernel_rfl
    case hQ5b => exact fun _ _ _ h => h
    case hy5b =>
      refine Or.inl ⟨rfl, ?_⟩
      intro W hSw
      obtain ⟨y0, y1⟩ := hSw
      go_simp
      try with_reducible rfl
    case hS5b => assumption
    try simp only [Act.put, List.setIfInBounds_toArray, List.set_cons_zero, List.set_cons_succ]
    refine wpAnyH_take (i := 6) (oi := ?oi6b) (v := ?v6b) ?hi6b ?hs6b ?hf6b ?hr6b ?hQ6b ?hy6b ?hS6b ?h6b
    case hi6b => exact (by simp only [List.getElem?_toArray, List.getElem?_cons_succ, List.getElem?_cons_zero]; rfl)
    case hs6b => kernel_rfl
    case hf6b => kernel_rfl
    case hr6b => kernel_rfl
    case hQ6b => exact fun _ _ _ h => h
    case hy6b =>
      refine Or.inl ⟨rfl, ?_⟩
      intro W hSw
      obtain ⟨y0, y1⟩ := hSw
      go_simp
      try with_reducible rfl
    case hS6b => assumption
    try simp only [Act.put, List.setIfInBounds_toArray, List.set_cons_zero, List.set_cons_succ]
    refine wpAnyH_take (i := 7) (oi := ?oi7b) (v := ?v7b) ?hi7b ?hs7b ?hf7b ?hr7b ?hQ7b ?hy7b ?hS7b ?h7b
    case hi7b => exact (by simp only [List.getElem?_toArray, List.getElem?_cons_succ, List.getElem?_cons_zero]; rfl)
    case hs7b => kernel_rfl
    case hf7b => kernel_rfl
    case hr7b => kernel_rfl
    case hQ7b => exact fun _ _ _ h => h
    case hy7b =>
      refine Or.inl ⟨rfl, ?_⟩
      intro W hSw
      obtain ⟨y0, y1⟩ := hSw
      go_simp
      try with_reducible rfl
    case hS7b => assumption
    try simp only [Act.put, List.setIfInBounds_toArray, List.set_cons_zero, List.set_cons_succ]
    refine wpAnyH_take (i := 8) (oi := ?oi8b) (v := ?v8b) ?hi8b ?hs8b ?hf8b ?hr8b ?hQ8b ?hy8b ?hS8b ?h8b
    case hi8b => exact (by simp only [List.getElem?_toArray, List.getElem?_cons_succ, List.getElem?_cons_zero]; rfl)
    case hs8b => kernel_rfl
    case hf8b => kernel_rfl
    case hr8b => kernel_rfl
    case hQ8b => exact fun _ _ _ h => h
    case hy8b =>
      refine Or.inl ⟨rfl, ?_⟩
      intro W hSw
      obtain ⟨y0, y1⟩ := hSw
      go_simp
      try with_reducible rfl
    case hS8b => assumption
    try simp only [Act.put, List.setIfInBounds_toArray, List.set_cons_zero, List.set_cons_succ]
    refine wpAnyH_take (i := 9) (oi := ?oi9b) (v := (.int .i64 most)) ?hi9b ?hs9b ?hf9b ?hr9b ?hQ9b ?hy9b ?hS9b ?h9b
    case hi9b => exact (by simp only [List.getElem?_toArray, List.getElem?_cons_succ, List.getElem?_cons_zero]; rfl)
    case hs9b => kernel_rfl
    case hf9b => kernel_rfl
    case hr9b => kernel_rfl
    case hQ9b => exact fun _ _ _ h => h
    case hy9b =>
      refine Or.inl ⟨rfl, ?_⟩
      intro W hSw
      obtain ⟨y0, y1⟩ := hSw
      go_simp
      try simp [hm]
    case hS9b => assumption
    try simp only [Act.put, List.setIfInBounds_toArray, List.set_cons_zero, List.set_cons_succ]
    refine wpAnyH_take (i := 10) (oi := ?oi10b) (v := ?v10b) ?hi10b ?hs10b ?hf10b ?hr10b ?hQ10b ?hy10b ?hS10b ?h10b
    case hi10b => exact (by simp only [List.getElem?_toArray, List.getElem?_cons_succ, List.getElem?_cons_zero]; rfl)
    case hs10b => kernel_rfl
    case hf10b => kernel_rfl
    case hr10b => kernel_rfl
    case hQ10b => exact fun _ _ _ h => h
    case hy10b =>
      refine Or.inl ⟨rfl, ?_⟩
      intro W hSw
      obtain ⟨y0, y1⟩ := hSw
      go_simp
      try with_reducible rfl
    case hS10b => assumption
    try simp only [Act.put, List.setIfInBounds_toArray, List.set_cons_zero, List.set_cons_succ]
    refine wpAnyH_take (i := 11) (oi := ?oi11b) (v := ?v11b) ?hi11b ?hs11b ?hf11b ?hr11b ?hQ11b ?hy11b ?hS11b ?h11b
    case hi11b => exact (by simp only [List.getElem?_toArray, List.getElem?_cons_succ, List.getElem?_cons_zero]; rfl)
    case hs11b => kernel_rfl
    case hf11b => kernel_rfl
    case hr11b => kernel_rfl
    case hQ11b => exact fun _ _ _ h => h
    case hy11b =>
      refine Or.inl ⟨rfl, ?_⟩
      intro W hSw
      obtain ⟨y0, y1⟩ := hSw
      go_simp
      try with_reducible rfl
    case hS11b => assumption
    try simp only [Act.put, List.setIfInBounds_toArray, List.set_cons_zero, List.set_cons_succ]
    refine wpAnyH_done (by kernel_rfl) ?_ _
    try go_wp2
    go_ret
    exact ⟨rfl, HV0.out⟩

theorem zn_ins (l : List Int) (p : Nat) (x : Int) : zn (l.take p ++ [x] ++ l.drop p) = (zn l).take p ++ [.int .u8 x] ++ (zn l).drop p := by simp [zn, List.map_take, List.map_drop]
set_option linter.unusedSimpArgs false in
set_option maxHeartbeats 4000000 in
theorem lay_ok (R : Nat) (most : Int) (vi vt : Value) (ids : List Nat) (ths : List Int) (p x : Nat) (z : Int) (w : World) (h : IsR w R most vi vt ids ths) (hl : ids.length < 1000) (hp : Pl ids x p) (hx : ids[p]? ≠ some x) (hok : 1 ≤ x ∧ x ≤ 2147483647) (hroom : (ids.length : Int) < min most 2147483647) :
    Calls Try.prog 74 #[.pointer (some ⟨R, 0, none⟩), .int .i64 (p : Int), .int .u32 (x : Int), .int .u8 z] w fun r w' => r = .returned (.int .i64 0) ∧ ChR R vi vt w w' ∧ ∃ vi' vt', IsR w' R most vi' vt' (ids.take p ++ [x] ++ ids.drop p) (ths.take p ++ [z] ++ ths.drop p) := by
  have HF := Lib.hid (full_any R most vi vt ids ths w h)
  have hfd : decide (min most 2147483647 ≤ (ids.length : Int)) = false := by rw [decide_eq_false_iff_not]; omega
  rw [hfd] at HF
  have hrd : decide (1 ≤ x ∧ x ≤ 2147483647) = true := by rw [decide_eq_true_iff]; exact hok
  have hRT : Hid (∀ W, Calls Try.prog 24 #[.int .u32 (x : Int)] W fun r w' => r = .returned (.bool true) ∧ w' = W) := fun W => by rw [← hrd]; exact right_any x W
  have HH := Lib.hid h
  have HP := Lib.hid hp
  have HX := Lib.hid hx
  have HOK := Lib.hid hok
  have HL := Lib.hid hl
  clear h hp hx hfd hrd hok hroom hl
  go_enter Try.func74, Try.ntmps74
  go_wp2_with fail
  refine (hRT.out w).mono ?_
  rintro r w' ⟨rfl, rfl⟩
  go_wp2_with fail
  refine HF.out.mono ?_
  rintro r w1 ⟨rfl, hb1⟩
  have h1 := HH.out.after hb1
  obtain ⟨w2, hw2⟩ : ∃ w2, w2 = w1.alloc (.cells #[.int .u32 (x : Int)] 28) := ⟨_, rfl⟩
  have hb2 : Below w1.heap.size w1 w2 := by rw [hw2]; exact (Below.refl _ _).alloc (Nat.le_refl _) _
  have h2 := h1.after hb2
  have hG : w2.heap[w1.heap.size]? = some (.cells #[.int .u32 (x : Int)] 28 (0, 0)) := by rw [hw2]; exact heap_alloc_new w1 _
  have hRlt := lt_of_block h1.row
  have HINS := Lib.hid (ins32_any (R + 1) ids.length p w1.heap.size vi (.int .u32 (x : Int)) (un ids) w2 HP.out.1 (by have := HL.out; omega) (by have := hb2.size; omega) h2.rio hG (fun e => by have := (ownlt h1.rio _ e).2; omega) rfl (un_one ids))
  rw [hw2] at HINS
  have H2 := Lib.hid h2
  have HB2 : Hid (Below w'.heap.size w' w2) := hb1.trans (hb2.mono hb1.size)
  have HW2 := Lib.hid hw2
  have c1 := cell_of_row w1 R 1 _ _ _ h1.row
  simp at c1
  clear h1 hb1 hb2 hw2 hG h2 hRlt
  go_wp2_with fail
  refine HINS.out.mono ?_
  rintro r w3 ⟨vi', rfl, hio3, hgr3⟩
  obtain ⟨A', c', rfl⟩ := own_form1 hio3
  obtain ⟨vi', hvi'⟩ : ∃ v, v = Value.slice A' (ids.length + 1) c' := ⟨_, rfl⟩
  rw [← hvi'] at hio3
  rw [← HW2.out] at hgr3
  have hne : ∀ k, vi.ownBlock = some k → R + 1 ≤ k := fun k hk => (ownlt H2.out.rio k hk).1
  have hrow3 : w3.heap[R]? = some (.cells #[.int .i64 most, vi, vt] 110 (0, 0)) := (hgr3.block R (lt_of_block H2.out.row) (fun e => by have := hne R e.symm; omega)).trans H2.out.row
  have hto3 : w3.ownsRow (R + 1) 5 1 vt ids.length (zn ths) := own_after H2.out.rto fun g hg => hgr3.block g (ownlt H2.out.rto g hg).2 (fun e => own_apart H2.out.rto H2.out.rio (by decide) hg e.symm)
  have hb3 : Below R w' w3 := (HB2.out.mono (Nat.le_of_lt (lt_of_block HH.out.row))).grown hgr3 (by have := lt_of_block H2.out.row; omega) (fun k hk => by have := hne k hk; omega)
  have hfr3 : ∀ g, g < w'.heap.size → g ≠ R → some g ≠ vi.ownBlock → some g ≠ vt.ownBlock → w3.heap[g]? = w'.heap[g]? := fun g hg _ h2 _ => (hgr3.block g (Nat.lt_of_lt_of_le hg HB2.out.size) h2).trans (HB2.out.block g hg)
  have hs3 : w'.heap.size ≤ w3.heap.size := Nat.le_trans HB2.out.size hgr3.size
  obtain ⟨w4, hw4⟩ : ∃ w4, w4 = w3.setCell ⟨R, 1, none⟩ vi' := ⟨_, rfl⟩
  have hrow4 : w4.heap[R]? = some (.cells #[.int .i64 most, vi', vt] 110 (0, 0)) := by rw [hw4]; exact heap_setCell_same w3 R 1 _ 110 vi' hrow3
  have hoth4 : ∀ g, g ≠ R → w4.heap[g]? = w3.heap[g]? := fun g hg => by rw [hw4]; exact Below.heap_setCell _ _ _ _ hg
  have hsz4 : w4.heap.size = w3.heap.size := by rw [hw4]; exact World.size_setCell ..
  have hio4 : w4.ownsRow (R + 1) 28 1 vi' (ids.length + 1) ((un ids).take p ++ [.int .u32 (x : Int)] ++ (un ids).drop p) := own_after hio3 fun g hg => hoth4 g (by have := (ownlt hio3 g hg).1; omega)
  have hto4 : w4.ownsRow (R + 1) 5 1 vt ids.length (zn ths) := own_after hto3 fun g hg => hoth4 g (by have := (ownlt hto3 g hg).1; omega)
  have hb4 : Below R w' w4 := by rw [hw4]; exact hb3.setCell (Nat.le_refl R) _
  obtain ⟨w5, hw5⟩ : ∃ w5, w5 = w4.alloc (.cells #[.int .u8 z] 5) := ⟨_, rfl⟩
  have hb5 : Below w4.heap.size w4 w5 := by rw [hw5]; exact (Below.refl _ _).alloc (Nat.le_refl _) _
  have hG5 : w5.heap[w4.heap.size]? = some (.cells #[.int .u8 z] 5 (0, 0)) := by rw [hw5]; exact heap_alloc_new w4 _
  have hio5 := own_after hio4 fun g hg => hb5.block g (ownlt hio4 g hg).2
  have hto5 := own_after hto4 fun g hg => hb5.block g (ownlt hto4 g hg).2
  have hrow5 := (hb5.block R (lt_of_block hrow4)).trans hrow4
  have hR4 := lt_of_block hrow4
  have hR5 := lt_of_block hrow5
  have HINZ := Lib.hid (insB_any (R + 1) ids.length p w4.heap.size vt (.int .u8 z) (zn ths) w5 HP.out.1 (by have := HL.out; omega) (by omega) hto5 hG5 (fun e => by have := (ownlt hto4 _ e).2; omega) rfl (zn_one ths))
  rw [hw5] at HINZ
  have c2 := cell_of_row w4 R 2 _ _ _ hrow4
  have d1 := cell_of_row w3 R 1 _ _ _ hrow3
  have f3 : ∀ i, w3.frozen? ⟨R, i, none⟩ = false := fun i => frozen_of_row w3 _ i _ _ hrow3
  simp at c2 d1
  have HW5 := Lib.hid hw5
  have HW4 := Lib.hid hw4
  have HIO5 := Lib.hid hio5
  have HTO5 := Lib.hid hto5
  have HROW5 := Lib.hid hrow5
  have HB5 : Hid (Below R w' w5) := hb4.trans (hb5.mono (Nat.le_of_lt hR4))
  have HS5 : Hid (w'.heap.size ≤ w5.heap.size) := by have := hb5.size; simp only [Hid]; omega
  have HFR5 : Hid (∀ g, g < w'.heap.size → g ≠ R → some g ≠ vi.ownBlock → some g ≠ vt.ownBlock → w5.heap[g]? = w'.heap[g]?) := fun g a1 a2 a3 a4 => ((hb5.block g (by omega)).trans (hoth4 g a2)).trans (hfr3 g a1 a2 a3 a4)
  clear hw4 hw5 hio3 hgr3 hne hrow3 hto3 hb3 hfr3 hs3 hrow4 hoth4 hsz4 hio4 hto4 hb4 hb5 hG5 hio5 hto5 hrow5 hR4 hR5 HINS H2 HB2 HW2 c1
  go_upto_region 8 with (fail)
  rw [← hvi', ← HW4.out]
  clear d1 f3 hvi'
  go_wp2_with fail
  refine HINZ.out.mono ?_
  rintro r w6 ⟨vt', rfl, hto6, hgr6⟩
  obtain ⟨A2, c2', rfl⟩ := own_form1 hto6
  rw [← HW5.out] at hgr6
  have hne : ∀ k, vt.ownBlock = some k → R + 1 ≤ k := fun k hk => (ownlt HTO5.out k hk).1
  have hrow6 : w6.heap[R]? = some (.cells #[.int .i64 most, vi', vt] 110 (0, 0)) := (hgr6.block R (lt_of_block HROW5.out) (fun e => by have := hne R e.symm; omega)).trans HROW5.out
  have hio6 := own_after HIO5.out fun g hg => hgr6.block g (ownlt HIO5.out g hg).2 (fun e => own_apart HIO5.out HTO5.out (by decide) hg e.symm)
  have hrow7 := heap_setCell_same w6 R 2 _ 110 (.slice A2 (ids.length + 1) c2') hrow6
  have hoth7 : ∀ g, g ≠ R → (w6.setCell ⟨R, 2, none⟩ (.slice A2 (ids.length + 1) c2')).heap[g]? = w6.heap[g]? := fun g hg => Below.heap_setCell _ _ _ _ hg
  have HFIN : Hid (IsR (w6.setCell ⟨R, 2, none⟩ (.slice A2 (ids.length + 1) c2')) R most vi' (.slice A2 (ids.length + 1) c2') (ids.take p ++ [x] ++ ids.drop p) (ths.take p ++ [z] ++ ths.drop p)) := by
    have hlen := HH.out.len
    refine ⟨hrow7, ?_, ?_, ?_, pl_up HH.out.up HP.out HX.out, ?_⟩
    · rw [un_ins, ins_len _ _ _ HP.out.1]
      exact own_after hio6 fun g hg => hoth7 g (by have := (ownlt hio6 g hg).1; omega)
    · rw [zn_ins, ins_len _ _ _ HP.out.1]
      exact own_after hto6 fun g hg => hoth7 g (by have := (ownlt hto6 g hg).1; omega)
    · rw [ins_len _ _ _ HP.out.1, ins_len _ _ _ (by have := HP.out.1; omega), hlen]
    · intro y hy
      simp only [List.mem_append, List.mem_singleton] at hy
      rcases hy with (hy | rfl) | hy
      · exact HH.out.ok y (List.mem_of_mem_take hy)
      · exact HOK.out
      · exact HH.out.ok y (List.mem_of_mem_drop hy)
  have HCH : Hid (ChR R vi vt w' (w6.setCell ⟨R, 2, none⟩ (.slice A2 (ids.length + 1) c2'))) := by
    refine ⟨(HB5.out.grown hgr6 (Nat.le_of_lt (lt_of_block HROW5.out)) (fun k hk => by have := hne k hk; omega)).setCell (Nat.le_refl R) _, ?_, fun g a1 a2 a3 a4 => ?_⟩
    · rw [World.size_setCell]
      exact Nat.le_trans HS5.out hgr6.size
    · exact ((hoth7 g a2).trans (hgr6.block g (Nat.lt_of_lt_of_le a1 HS5.out) a4)).trans (HFR5.out g a1 a2 a3 a4)
  have d2 := cell_of_row w6 R 2 _ _ _ hrow6
  have f6 : ∀ i, w6.frozen? ⟨R, i, none⟩ = false := fun i => frozen_of_row w6 _ i _ _ hrow6
  simp at d2
  clear hto6 hgr6 hne hrow6 hio6 hrow7 hoth7 c2
  go_wp2
  go_ret
  exact ⟨rfl, HCH.out, vi', _, HFIN.out⟩

set_option maxHeartbeats 1000000 in
theorem lay_id (R p x : Nat) (z : Int) (w : World) (hok : ¬(1 ≤ x ∧ x ≤ 2147483647)) :
    Calls Try.prog 74 #[.pointer (some ⟨R, 0, none⟩), .int .i64 (p : Int), .int .u32 (x : Int), .int .u8 z] w fun r w' => r = .returned (.int .i64 14) ∧ w' = w := by
  have hrd : decide (1 ≤ x ∧ x ≤ 2147483647) = false := by rw [decide_eq_false_iff_not]; exact hok
  have hRT : Hid (∀ W, Calls Try.prog 24 #[.int .u32 (x : Int)] W fun r w' => r = .returned (.bool false) ∧ w' = W) := fun W => by rw [← hrd]; exact right_any x W
  clear hrd hok
  go_enter Try.func74, Try.ntmps74
  go_wp2_with fail
  refine (hRT.out w).mono ?_
  rintro r w' ⟨rfl, rfl⟩
  go_wp2
  go_ret
  exact ⟨rfl, rfl⟩
set_option maxHeartbeats 1000000 in
theorem lay_full (R : Nat) (most : Int) (vi vt : Value) (ids : List Nat) (ths : List Int) (p x : Nat) (z : Int) (w : World) (h : IsR w R most vi vt ids ths) (hok : 1 ≤ x ∧ x ≤ 2147483647) (hf : min most 2147483647 ≤ (ids.length : Int)) :
    Calls Try.prog 74 #[.pointer (some ⟨R, 0, none⟩), .int .i64 (p : Int), .int .u32 (x : Int), .int .u8 z] w fun r w' => r = .returned (.int .i64 10) ∧ Below w.heap.size w w' := by
  have hrd : decide (1 ≤ x ∧ x ≤ 2147483647) = true := by rw [decide_eq_true_iff]; exact hok
  have hRT : Hid (∀ W, Calls Try.prog 24 #[.int .u32 (x : Int)] W fun r w' => r = .returned (.bool true) ∧ w' = W) := fun W => by rw [← hrd]; exact right_any x W
  have HF := Lib.hid (full_any R most vi vt ids ths w h)
  have hfd : decide (min most 2147483647 ≤ (ids.length : Int)) = true := by rw [decide_eq_true_iff]; exact hf
  rw [hfd] at HF
  clear hrd hok hfd hf h
  go_enter Try.func74, Try.ntmps74
  go_wp2_with fail
  refine (hRT.out w).mono ?_
  rintro r w' ⟨rfl, rfl⟩
  go_wp2_with fail
  refine HF.out.mono ?_
  rintro r w1 ⟨rfl, hb1⟩
  go_wp2
  go_ret
  exact ⟨rfl, hb1⟩
/-- Add, told by what lay answers. -/
theorem add_core (R : Nat) (most : Int) (vi vt : Value) (ids : List Nat) (ths : List Int) (x : Nat) (z : Int) (w : World) (h : IsR w R most vi vt ids ths) (hl : ids.length ≤ 1000) (hx : x ∉ ids) (Q : Ending → World → Prop)
    (hlay : ∀ p, Pl ids x p → ids[p]? ≠ some x → Calls Try.prog 74 #[.pointer (some ⟨R, 0, none⟩), .int .i64 (p : Int), .int .u32 (x : Int), .int .u8 z] w fun r w' => ∃ c, r = .returned (.int .i64 c) ∧ Q r w') :
    Calls Try.prog 40 #[.pointer (some ⟨R, 0, none⟩), .int .u32 (x : Int), .int .u8 z] w Q := by
  have HP := Lib.hid (place_any R most vi vt ids ths x w h hl)
  have HL := Lib.hid hlay
  have HU := Lib.hid h.up
  have HX := Lib.hid hx
  clear h hl hlay hx
  go_enter Try.func40, Try.ntmps40
  go_wp2_with fail
  refine HP.out.mono ?_
  rintro r w' ⟨rfl, p, hp, rfl⟩
  have hne : ids[p]? ≠ some x := fun e => HX.out ((pl_mem HU.out hp).2 e)
  have hd : decide (ids[p]? = some x) = false := by rw [decide_eq_false_iff_not]; exact hne
  have HLp := Lib.hid (HL.out p hp hne)
  clear hne hp
  rw [hd]
  go_wp2_with fail
  refine HLp.out.mono ?_
  rintro r w1 ⟨c, rfl, hq⟩
  have HQ := Lib.hid hq
  clear hq
  go_wp2
  exact HQ.out
set_option maxHeartbeats 1000000 in
theorem add_there (R : Nat) (most : Int) (vi vt : Value) (ids : List Nat) (ths : List Int) (x : Nat) (z : Int) (w : World) (h : IsR w R most vi vt ids ths) (hl : ids.length ≤ 1000) (hx : x ∈ ids) :
    Calls Try.prog 40 #[.pointer (some ⟨R, 0, none⟩), .int .u32 (x : Int), .int .u8 z] w fun r w' => r = .returned (.int .i64 11) ∧ w' = w := by
  have HP := Lib.hid (place_any R most vi vt ids ths x w h hl)
  have HU := Lib.hid h.up
  have HX := Lib.hid hx
  clear h hl hx
  go_enter Try.func40, Try.ntmps40
  go_wp2_with fail
  refine HP.out.mono ?_
  rintro r w' ⟨rfl, p, hp, rfl⟩
  have hd : decide (ids[p]? = some x) = true := by rw [decide_eq_true_iff]; exact (pl_mem HU.out hp).1 HX.out
  rw [hd]
  clear hp
  go_wp2
  go_ret
  exact ⟨rfl, rfl⟩
theorem add_id (R : Nat) (most : Int) (vi vt : Value) (ids : List Nat) (ths : List Int) (x : Nat) (z : Int) (w : World) (h : IsR w R most vi vt ids ths) (hl : ids.length ≤ 1000) (hok : ¬(1 ≤ x ∧ x ≤ 2147483647)) :
    Calls Try.prog 40 #[.pointer (some ⟨R, 0, none⟩), .int .u32 (x : Int), .int .u8 z] w fun r w' => r = .returned (.int .i64 14) ∧ w' = w :=
  add_core R most vi vt ids ths x z w h hl (fun hx => hok (h.ok x hx)) _ fun p _ _ => (lay_id R p x z w hok).mono fun _ _ ⟨h1, h2⟩ => ⟨14, h1, h1, h2⟩
theorem add_full (R : Nat) (most : Int) (vi vt : Value) (ids : List Nat) (ths : List Int) (x : Nat) (z : Int) (w : World) (h : IsR w R most vi vt ids ths) (hl : ids.length ≤ 1000) (hx : x ∉ ids) (hok : 1 ≤ x ∧ x ≤ 2147483647) (hf : min most 2147483647 ≤ (ids.length : Int)) :
    Calls Try.prog 40 #[.pointer (some ⟨R, 0, none⟩), .int .u32 (x : Int), .int .u8 z] w fun r w' => r = .returned (.int .i64 10) ∧ Below w.heap.size w w' :=
  add_core R most vi vt ids ths x z w h hl hx _ fun p _ _ => (lay_full R most vi vt ids ths p x z w h hok hf).mono fun _ _ ⟨h1, h2⟩ => ⟨10, h1, h1, h2⟩
theorem add_ok (R : Nat) (most : Int) (vi vt : Value) (ids : List Nat) (ths : List Int) (x : Nat) (z : Int) (w : World) (h : IsR w R most vi vt ids ths) (hl : ids.length < 1000) (hx : x ∉ ids) (hok : 1 ≤ x ∧ x ≤ 2147483647) (hf : (ids.length : Int) < min most 2147483647) :
    Calls Try.prog 40 #[.pointer (some ⟨R, 0, none⟩), .int .u32 (x : Int), .int .u8 z] w fun r w' => r = .returned (.int .i64 0) ∧ ChR R vi vt w w' ∧ ∃ p vi' vt', Pl ids x p ∧ IsR w' R most vi' vt' (ids.take p ++ [x] ++ ids.drop p) (ths.take p ++ [z] ++ ths.drop p) :=
  add_core R most vi vt ids ths x z w h (Nat.le_of_lt hl) hx _ fun p hp hne => (lay_ok R most vi vt ids ths p x z w h hl hp hne hok hf).mono fun _ _ ⟨h1, h2, vi', vt', h3⟩ => ⟨0, h1, h1, h2, p, vi', vt', hp, h3⟩
set_option maxHeartbeats 2000000 in
theorem put_there (R : Nat) (most : Int) (vi vt : Value) (ids : List Nat) (ths : List Int) (x : Nat) (z : Int) (w : World) (h : IsR w R most vi vt ids ths) (hl : ids.length ≤ 1000) (hx : x ∈ ids) :
    Calls Try.prog 36 #[.pointer (some ⟨R, 0, none⟩), .int .u32 (x : Int), .int .u8 z] w fun r w' => r = .returned (.int .i64 0) ∧ ChR R vi vt w w' ∧ ∃ p, ids[p]? = some x ∧ IsR w' R most vi vt ids (ths.set p z) := by
  have HP := Lib.hid (place_any R most vi vt ids ths x w h hl)
  have HH := Lib.hid h
  have HX := Lib.hid hx
  have hn0 : 0 < ids.length := List.length_pos_of_mem hx
  rcases h.rto.2 with ⟨_, h0⟩ | ⟨g, cap, cur, rfl, hbg, hh, hnc, hcm, hcs, ht⟩
  · omega
  obtain ⟨n, hn⟩ : ∃ n, n = ids.length := ⟨_, rfl⟩
  have hrow := h.row
  rw [← hn] at hnc ht hrow ⊢
  rw [Nat.mul_one] at hcs ht
  have c2 := cell_of_row w R 2 _ _ _ hrow
  simp at c2
  have fg : ∀ i, w.frozen? ⟨g, i, none⟩ = false := fun i => frozen_of_row w _ i _ _ hh
  have HG : Hid (w.heap[g]? = some (.cells cur 5 (0, 0))) := hh
  have HN := Lib.hid hn
  have HBG := Lib.hid hbg
  have HT := Lib.hid ht
  have HCS := Lib.hid hcs
  have HNC := Lib.hid hnc
  have HCM := Lib.hid hcm
  clear h hx hl hh hbg hcm hcs ht hn hn0 hrow hnc
  go_enter Try.func36, Try.ntmps36
  go_wp2_with fail
  refine HP.out.mono ?_
  rintro r w' ⟨rfl, p, hp, rfl⟩
  have hget := (pl_mem HH.out.up hp).1 HX.out
  have hd : decide (ids[p]? = some x) = true := by rw [decide_eq_true_iff]; exact hget
  have hpn : p < n := by have := (List.getElem?_eq_some_iff.1 hget).1; have := HN.out; omega
  have d : w'.cell? ⟨g, p, none⟩ = some (cur[p]'(by have := HCS.out; have := HNC.out; omega)) := by
    rw [cell_of_row w' g p _ _ _ HG.out]
    exact Array.getElem?_eq_getElem _
  have HGET := Lib.hid hget
  have HFIN : Hid (IsR (w'.setCell ⟨g, p, none⟩ (.int .u8 z)) R most vi (.slice (some ⟨g, 0, none⟩) n cap) ids (ths.set p z)) := by
    have hne : g ≠ R := by have := HBG.out; omega
    have h0 := HH.out
    rw [← HN.out] at h0
    have hs := heap_setCell_same w' g p cur 5 (.int .u8 z) HG.out
    refine ⟨(Below.heap_setCell _ _ _ _ (fun e => hne e.symm)).trans h0.row, own_after h0.rio fun k hk => Below.heap_setCell _ _ _ _ (fun e => own_apart h0.rio h0.rto (by decide) hk (by rw [e]; rfl)), ?_, by rw [List.length_set]; exact h0.len, h0.up, h0.ok⟩
    rw [← HN.out]
    refine ⟨by have := h0.len; have := HN.out; simp [zn]; omega, .inr ⟨g, cap, _, rfl, HBG.out, hs, HNC.out, HCM.out, by rw [Array.size_setIfInBounds, Nat.mul_one]; exact HCS.out, ?_⟩⟩
    rw [Nat.mul_one, Array.toList_setIfInBounds, List.take_set, HT.out]
    simp [zn, List.map_set]
  have HCH : Hid (ChR R vi (.slice (some ⟨g, 0, none⟩) n cap) w' (w'.setCell ⟨g, p, none⟩ (.int .u8 z))) :=
    ⟨(Below.refl _ _).setCell (by have := HBG.out; show R ≤ g; omega) _, by rw [World.size_setCell]; exact Nat.le_refl _, fun k _ _ _ h4 => Below.heap_setCell _ _ _ _ (fun e => h4 (by rw [e]; rfl))⟩
  rw [hd]
  clear hp hget
  go_wp2
  go_ret
  exact ⟨rfl, HCH.out, p, HGET.out, HFIN.out⟩
end Go.Proofs.Ytbilkelbelimjaa.B
