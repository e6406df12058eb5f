/- Rack: what is refused; Add, Put, Ids, Len, a full rack's Free (at int). -/
import Derived.Test.YtbilkelbelimjaaK4
import Derived.Lib.SliceRun
namespace Go.Proofs.Ytbilkelbelimjaa
open Go.RowKit
set_option maxRecDepth 20000

theorem pl_mem {ids : List Nat} {x p : Nat} (hu : Up ids) (hp : Pl ids x p) : x ∈ ids ↔ ids[p]? = some x := by
  obtain ⟨_, h2, h3⟩ := hp
  constructor
  · intro h
    obtain ⟨j, hj⟩ := List.getElem?_of_mem h
    rcases Nat.lt_trichotomy j p with h | h | h
    · have := h2 j x h hj; omega
    · rw [← h]; exact hj
    · obtain ⟨z, hz⟩ : ∃ z, ids[p]? = some z := ⟨ids[p]'(by have := (List.getElem?_eq_some_iff.1 hj).1; omega), List.getElem?_eq_getElem _⟩
      have h4 := hu p j z x h hz hj
      have h5 := h3 p z (Nat.le_refl _) hz
      omega
  · exact fun h => List.mem_of_getElem? h

set_option maxHeartbeats 1000000 in
theorem lay_id (R p x : Nat) (z : Int) (w : World) (hok : ¬(1 ≤ x ∧ x ≤ 2147483647)) :
    Calls Try.prog 62 #[.pointer (some ⟨R, 0, none⟩), .int .i64 (p : Int), .int .u32 (x : Int), .int .i64 z] w fun r w' => r = .returned (.int .i64 14) ∧ w' = w := by
  have hrd : decide (1 ≤ x ∧ x ≤ 2147483647) = false := by rw [decide_eq_false_iff_not]; exact hok
  have hRT : Hid (∀ W, Calls Try.prog 24 #[.int .u32 (x : Int)] W fun r w' => r = .returned (.bool false) ∧ w' = W) := fun W => by rw [← hrd]; exact right_any x W
  clear hrd hok
  go_enter Try.func62, Try.ntmps62
  go_wp2_with fail
  refine (hRT.out w).mono ?_
  rintro r w' ⟨rfl, rfl⟩
  go_wp2
  go_ret
  exact ⟨rfl, rfl⟩
set_option maxHeartbeats 1000000 in
theorem lay_full (R : Nat) (most : Int) (vi vt : Value) (ids : List Nat) (ths : List Int) (p x : Nat) (z : Int) (w : World) (h : IsR w R most vi vt ids ths) (hok : 1 ≤ x ∧ x ≤ 2147483647) (hf : min most 2147483647 ≤ (ids.length : Int)) :
    Calls Try.prog 62 #[.pointer (some ⟨R, 0, none⟩), .int .i64 (p : Int), .int .u32 (x : Int), .int .i64 z] w fun r w' => r = .returned (.int .i64 10) ∧ Below w.heap.size w w' := by
  have hrd : decide (1 ≤ x ∧ x ≤ 2147483647) = true := by rw [decide_eq_true_iff]; exact hok
  have hRT : Hid (∀ W, Calls Try.prog 24 #[.int .u32 (x : Int)] W fun r w' => r = .returned (.bool true) ∧ w' = W) := fun W => by rw [← hrd]; exact right_any x W
  have HF := Lib.hid (full_any R most vi vt ids ths w h)
  have hfd : decide (min most 2147483647 ≤ (ids.length : Int)) = true := by rw [decide_eq_true_iff]; exact hf
  rw [hfd] at HF
  clear hrd hok hfd hf h
  go_enter Try.func62, Try.ntmps62
  go_wp2_with fail
  refine (hRT.out w).mono ?_
  rintro r w' ⟨rfl, rfl⟩
  go_wp2_with fail
  refine HF.out.mono ?_
  rintro r w1 ⟨rfl, hb1⟩
  go_wp2
  go_ret
  exact ⟨rfl, hb1⟩

/-- Add, told by what lay answers. -/
theorem add_core (R : Nat) (most : Int) (vi vt : Value) (ids : List Nat) (ths : List Int) (x : Nat) (z : Int) (w : World) (h : IsR w R most vi vt ids ths) (hl : ids.length ≤ 1000) (hx : x ∉ ids) (Q : Ending → World → Prop)
    (hlay : ∀ p, Pl ids x p → ids[p]? ≠ some x → Calls Try.prog 62 #[.pointer (some ⟨R, 0, none⟩), .int .i64 (p : Int), .int .u32 (x : Int), .int .i64 z] w fun r w' => ∃ c, r = .returned (.int .i64 c) ∧ Q r w') :
    Calls Try.prog 17 #[.pointer (some ⟨R, 0, none⟩), .int .u32 (x : Int), .int .i64 z] w Q := by
  have HP := Lib.hid (place_any R most vi vt ids ths x w h hl)
  have HL := Lib.hid hlay
  have HU := Lib.hid h.up
  have HX := Lib.hid hx
  clear h hl hlay hx
  go_enter Try.func17, Try.ntmps17
  go_wp2_with fail
  refine HP.out.mono ?_
  rintro r w' ⟨rfl, p, hp, rfl⟩
  have hne : ids[p]? ≠ some x := fun e => HX.out ((pl_mem HU.out hp).2 e)
  have hd : decide (ids[p]? = some x) = false := by rw [decide_eq_false_iff_not]; exact hne
  have HLp := Lib.hid (HL.out p hp hne)
  clear hne hp
  rw [hd]
  go_wp2_with fail
  refine HLp.out.mono ?_
  rintro r w1 ⟨c, rfl, hq⟩
  have HQ := Lib.hid hq
  clear hq
  go_wp2
  exact HQ.out
set_option maxHeartbeats 1000000 in
theorem add_there (R : Nat) (most : Int) (vi vt : Value) (ids : List Nat) (ths : List Int) (x : Nat) (z : Int) (w : World) (h : IsR w R most vi vt ids ths) (hl : ids.length ≤ 1000) (hx : x ∈ ids) :
    Calls Try.prog 17 #[.pointer (some ⟨R, 0, none⟩), .int .u32 (x : Int), .int .i64 z] w fun r w' => r = .returned (.int .i64 11) ∧ w' = w := by
  have HP := Lib.hid (place_any R most vi vt ids ths x w h hl)
  have HU := Lib.hid h.up
  have HX := Lib.hid hx
  clear h hl hx
  go_enter Try.func17, Try.ntmps17
  go_wp2_with fail
  refine HP.out.mono ?_
  rintro r w' ⟨rfl, p, hp, rfl⟩
  have hd : decide (ids[p]? = some x) = true := by rw [decide_eq_true_iff]; exact (pl_mem HU.out hp).1 HX.out
  rw [hd]
  clear hp
  go_wp2
  go_ret
  exact ⟨rfl, rfl⟩
theorem add_id (R : Nat) (most : Int) (vi vt : Value) (ids : List Nat) (ths : List Int) (x : Nat) (z : Int) (w : World) (h : IsR w R most vi vt ids ths) (hl : ids.length ≤ 1000) (hok : ¬(1 ≤ x ∧ x ≤ 2147483647)) :
    Calls Try.prog 17 #[.pointer (some ⟨R, 0, none⟩), .int .u32 (x : Int), .int .i64 z] w fun r w' => r = .returned (.int .i64 14) ∧ w' = w :=
  add_core R most vi vt ids ths x z w h hl (fun hx => hok (h.ok x hx)) _ fun p _ _ => (lay_id R p x z w hok).mono fun _ _ ⟨h1, h2⟩ => ⟨14, h1, h1, h2⟩
theorem add_full (R : Nat) (most : Int) (vi vt : Value) (ids : List Nat) (ths : List Int) (x : Nat) (z : Int) (w : World) (h : IsR w R most vi vt ids ths) (hl : ids.length ≤ 1000) (hx : x ∉ ids) (hok : 1 ≤ x ∧ x ≤ 2147483647) (hf : min most 2147483647 ≤ (ids.length : Int)) :
    Calls Try.prog 17 #[.pointer (some ⟨R, 0, none⟩), .int .u32 (x : Int), .int .i64 z] w fun r w' => r = .returned (.int .i64 10) ∧ Below w.heap.size w w' :=
  add_core R most vi vt ids ths x z w h hl hx _ fun p _ _ => (lay_full R most vi vt ids ths p x z w h hok hf).mono fun _ _ ⟨h1, h2⟩ => ⟨10, h1, h1, h2⟩
theorem add_ok (R : Nat) (most : Int) (vi vt : Value) (ids : List Nat) (ths : List Int) (x : Nat) (z : Int) (w : World) (h : IsR w R most vi vt ids ths) (hl : ids.length < 1000) (hx : x ∉ ids) (hok : 1 ≤ x ∧ x ≤ 2147483647) (hf : (ids.length : Int) < min most 2147483647) :
    Calls Try.prog 17 #[.pointer (some ⟨R, 0, none⟩), .int .u32 (x : Int), .int .i64 z] w fun r w' => r = .returned (.int .i64 0) ∧ ChR R vi vt w w' ∧ ∃ p vi' vt', Pl ids x p ∧ IsR w' R most vi' vt' (ids.take p ++ [x] ++ ids.drop p) (ths.take p ++ [z] ++ ths.drop p) :=
  add_core R most vi vt ids ths x z w h (Nat.le_of_lt hl) hx _ fun p hp hne => (lay_ok R most vi vt ids ths p x z w h hl hp hne hok hf).mono fun _ _ ⟨h1, h2, vi', vt', h3⟩ => ⟨0, h1, h1, h2, p, vi', vt', hp, h3⟩

set_option maxHeartbeats 2000000 in
theorem put_there (R : Nat) (most : Int) (vi vt : Value) (ids : List Nat) (ths : List Int) (x : Nat) (z : Int) (w : World) (h : IsR w R most vi vt ids ths) (hl : ids.length ≤ 1000) (hx : x ∈ ids) :
    Calls Try.prog 15 #[.pointer (some ⟨R, 0, none⟩), .int .u32 (x : Int), .int .i64 z] w fun r w' => r = .returned (.int .i64 0) ∧ ChR R vi vt w w' ∧ ∃ p, ids[p]? = some x ∧ IsR w' R most vi vt ids (ths.set p z) := by
  have HP := Lib.hid (place_any R most vi vt ids ths x w h hl)
  have HH := Lib.hid h
  have HX := Lib.hid hx
  have hn0 : 0 < ids.length := List.length_pos_of_mem hx
  rcases h.rto.2 with ⟨_, h0⟩ | ⟨g, cap, cur, rfl, hbg, hh, hnc, hcm, hcs, ht⟩
  · omega
  obtain ⟨n, hn⟩ : ∃ n, n = ids.length := ⟨_, rfl⟩
  have hrow := h.row
  rw [← hn] at hnc ht hrow ⊢
  rw [Nat.mul_one] at hcs ht
  have c2 := cell_of_row w R 2 _ _ _ hrow
  simp at c2
  have fg : ∀ i, w.frozen? ⟨g, i, none⟩ = false := fun i => frozen_of_row w _ i _ _ hh
  have HG : Hid (w.heap[g]? = some (.cells cur 3 (0, 0))) := hh
  have HN := Lib.hid hn
  have HBG := Lib.hid hbg
  have HT := Lib.hid ht
  have HCS := Lib.hid hcs
  have HNC := Lib.hid hnc
  have HCM := Lib.hid hcm
  clear h hx hl hh hbg hcm hcs ht hn hn0 hrow hnc
  go_enter Try.func15, Try.ntmps15
  go_wp2_with fail
  refine HP.out.mono ?_
  rintro r w' ⟨rfl, p, hp, rfl⟩
  have hget := (pl_mem HH.out.up hp).1 HX.out
  have hd : decide (ids[p]? = some x) = true := by rw [decide_eq_true_iff]; exact hget
  have hpn : p < n := by have := (List.getElem?_eq_some_iff.1 hget).1; have := HN.out; omega
  have d : w'.cell? ⟨g, p, none⟩ = some (cur[p]'(by have := HCS.out; have := HNC.out; omega)) := by
    rw [cell_of_row w' g p _ _ _ HG.out]
    exact Array.getElem?_eq_getElem _
  have HGET := Lib.hid hget
  have HFIN : Hid (IsR (w'.setCell ⟨g, p, none⟩ (.int .i64 z)) R most vi (.slice (some ⟨g, 0, none⟩) n cap) ids (ths.set p z)) := by
    have hne : g ≠ R := by have := HBG.out; omega
    have h0 := HH.out
    rw [← HN.out] at h0
    have hs := heap_setCell_same w' g p cur 3 (.int .i64 z) HG.out
    refine ⟨(Below.heap_setCell _ _ _ _ (fun e => hne e.symm)).trans h0.row, own_after h0.rio fun k hk => Below.heap_setCell _ _ _ _ (fun e => own_apart h0.rio h0.rto (by decide) hk (by rw [e]; rfl)), ?_, by rw [List.length_set]; exact h0.len, h0.up, h0.ok⟩
    rw [← HN.out]
    refine ⟨by have := h0.len; have := HN.out; simp [zn]; omega, .inr ⟨g, cap, _, rfl, HBG.out, hs, HNC.out, HCM.out, by rw [Array.size_setIfInBounds, Nat.mul_one]; exact HCS.out, ?_⟩⟩
    rw [Nat.mul_one, Array.toList_setIfInBounds, List.take_set, HT.out]
    simp [zn, List.map_set]
  have HCH : Hid (ChR R vi (.slice (some ⟨g, 0, none⟩) n cap) w' (w'.setCell ⟨g, p, none⟩ (.int .i64 z))) :=
    ⟨(Below.refl _ _).setCell (by have := HBG.out; show R ≤ g; omega) _, by rw [World.size_setCell]; exact Nat.le_refl _, fun k _ _ _ h4 => Below.heap_setCell _ _ _ _ (fun e => h4 (by rw [e]; rfl))⟩
  rw [hd]
  clear hp hget
  go_wp2
  go_ret
  exact ⟨rfl, HCH.out, p, HGET.out, HFIN.out⟩
end Go.Proofs.Ytbilkelbelimjaa
