/- Ready: who leads; puts and drops, told by parties; a new one. -/
import Derived.Test.YtemjmnpclknfaaaQ5
namespace Go.Proofs.Ytemjmnpclknfaaa.P
open Go.RowKit
set_option maxRecDepth 20000
set_option linter.unusedVariables false
set_option linter.unusedSimpArgs false

theorem ins_get {α : Type} (l : List α) (p : Nat) (a : α) (h : p ≤ l.length) (i : Nat) : (l.take p ++ [a] ++ l.drop p)[i]? = if i < p then l[i]? else if i = p then some a else l[i - 1]? := by
  by_cases h1 : i < p
  · rw [if_pos h1, List.append_assoc, List.getElem?_append_left (by rw [List.length_take]; omega), List.getElem?_take, if_pos h1]
  · rw [if_neg h1]
    by_cases h2 : i = p
    · subst h2
      rw [if_pos rfl, List.getElem?_append_left (by simp; omega), List.getElem?_append_right (by rw [List.length_take]; omega), List.length_take, Nat.min_eq_left h]
      simp
    · rw [if_neg h2, List.getElem?_append_right (by simp; omega), List.getElem?_drop]
      congr 1
      simp
      omega
theorem del_get {α : Type} (l : List α) (p : Nat) (h : p ≤ l.length) (i : Nat) : (l.take p ++ l.drop (p + 1))[i]? = if i < p then l[i]? else l[i + 1]? := by
  by_cases h1 : i < p
  · rw [if_pos h1, List.getElem?_append_left (by rw [List.length_take]; omega), List.getElem?_take, if_pos h1]
  · rw [if_neg h1, List.getElem?_append_right (by rw [List.length_take]; omega), List.getElem?_drop, List.length_take, Nat.min_eq_left h]
    congr 1
    omega
def PutP (B R : Nat) (most : Int) (vi : Value) (L' : List Pt) (w w' : World) : Prop := ∃ vi', Bk w' B R most vi' L' ∧ Stp R vi vi' w w'
theorem Gp.stp {w w' : World} {R : Nat} {vi vi' : Value} {th : Mk} {p : Pt} (h : Gp w R vi th p) (hs : Stp R vi vi' w w') : Gp w' R vi' th p := ⟨h.1, h.2.1.stp hs, h.2.2.stp hs⟩
theorem bput_there (B R : Nat) (most : Int) (vi : Value) (L : List Pt) (y1 y2 : Sl) (y3 : Int) (g : Pt) (w0 w : World) (h0 : Bk w0 B R most vi L) (hb0 : Below w0.heap.size w0 w) (hl : L.length ≤ 100) (hm : ∃ e ∈ L, e.id = g.id) (hg : Gp w R vi (y1, y2, y3) g) :
    Calls Try.prog 51 #[bp R, .int .u32 (g.id : Int), mV y1 y2 y3] w fun r w' => r = .returned (.int .i64 0) ∧ PutP B R most vi (insL L g) w w' ∧ ∀ k, w0.heap.size ≤ k → k < w.heap.size → w'.heap[k]? = w.heap[k]? := by
  obtain ⟨vt, ths, h10, h20⟩ := h0.ex
  have h1 := h10.after hb0
  have h := h0.after hb0
  have h2 : ∀ (i : Nat) (p : Pt), L[i]? = some p → ∃ th, ths[i]? = some th ∧ Gp w R vi th p := fun i p hp => by
    obtain ⟨th, e1, e2⟩ := h20 i p hp
    exact ⟨th, e1, e2.after hb0⟩
  have hkeep : ∀ w', ChR R vi vt w w' → ∀ k, w0.heap.size ≤ k → k < w.heap.size → w'.heap[k]? = w.heap[k]? := fun w' hch k hk1 hk2 => hch.2.2 k hk2 (fun e => by have := lt_of_block h10.row; omega) (fun e => by have := (ownlt h10.rio k e.symm).2; omega) (fun e => by have := (ownlt h10.rto k e.symm).2; omega)
  obtain ⟨e0, he0, hi0⟩ := hm
  refine (put_there R most vi vt _ ths g.id y1 y2 y3 w h1 (by simp; omega) (List.mem_map.2 ⟨e0, he0, hi0⟩)).mono ?_
  rintro r w' ⟨rfl, hch, p, hp, hi⟩
  have hs := stp_of h1 hch (fun g hg => .inl hg : Fz vi vi w)
  rw [List.getElem?_map] at hp
  obtain ⟨e, he, hei⟩ := Option.map_eq_some_iff.1 hp
  have hpl := (List.getElem?_eq_some_iff.1 he).1
  refine ⟨rfl, ⟨vi, ⟨(hs.keep B _ 88 h.blk (by decide) (by decide) (fun e => absurd e (by decide))).trans h.blk, vt, ths.set p (y1, y2, y3), ?_, fun i q hq => ?_⟩, hs⟩, hkeep w' hch⟩
  · rw [← set_insL h.ris he hei, List.map_set]
    have e1 : (L.map (·.id)).set p g.id = L.map (·.id) := by
      refine List.ext_getElem? fun i => ?_
      rw [List.getElem?_set]
      split
      · subst_vars
        rw [List.getElem?_map, he]
        simp [hpl, hei]
      · rfl
    rw [e1]
    exact hi
  · rw [← set_insL h.ris he hei, List.getElem?_set] at hq
    rw [List.getElem?_set]
    by_cases hip : p = i
    · rw [if_pos hip] at hq ⊢
      rw [if_pos (by omega)] at hq
      injection hq with hq
      subst hq
      refine ⟨_, if_pos (by have := h1.len; simp at this; omega), hg.stp hs⟩
    · rw [if_neg hip] at hq ⊢
      obtain ⟨th, a1, a2⟩ := h2 i q hq
      exact ⟨th, a1, a2.stp hs⟩
theorem bput_new (B R : Nat) (most : Int) (vi : Value) (L : List Pt) (y1 y2 : Sl) (y3 : Int) (g : Pt) (w : World) (h : Bk w B R most vi L) (hl : L.length ≤ 100) (hm : ∀ e ∈ L, e.id ≠ g.id) (hok : 1 ≤ g.id ∧ g.id ≤ 2147483647) (hf : (L.length : Int) < min most 2147483647) (hg : Gp w R vi (y1, y2, y3) g) :
    Calls Try.prog 51 #[bp R, .int .u32 (g.id : Int), mV y1 y2 y3] w fun r w' => r = .returned (.int .i64 0) ∧ PutP B R most vi (insL L g) w w' := by
  obtain ⟨vt, ths, h1, h2⟩ := h.ex
  refine (put_new R most vi vt _ ths g.id y1 y2 y3 w h1 (by simp; omega) (fun hx => by obtain ⟨e, he, hi⟩ := List.mem_map.1 hx; exact hm e he hi) hok (by simpa using hf)).mono ?_
  rintro r w' ⟨rfl, hch, p, vi', vt', hpl, hz, hi⟩
  have hs := stp_of h1 hch hz
  have hp : p ≤ L.length := by simpa using hpl.1
  have hlt : ths.length = L.length := by simpa using h1.len
  have e1 : insL L g = L.take p ++ [g] ++ L.drop p := (new_insL (fun e he => by
    obtain ⟨j, hj⟩ := List.mem_iff_getElem?.1 he
    rw [List.getElem?_take] at hj
    split at hj
    · exact hpl.2.1 j e.id (by assumption) (by rw [List.getElem?_map, hj]; rfl)
    · cases hj) (fun e he => by
    obtain ⟨j, hj⟩ := List.mem_iff_getElem?.1 he
    rw [List.getElem?_drop] at hj
    have a1 := hpl.2.2 (p + j) e.id (by omega) (by rw [List.getElem?_map, hj]; rfl)
    have a2 := hm e (List.mem_of_getElem? hj)
    omega)).symm
  refine ⟨rfl, vi', ⟨(hs.keep B _ 88 h.blk (by decide) (by decide) (fun e => absurd e (by decide))).trans h.blk, vt', ths.take p ++ [(y1, y2, y3)] ++ ths.drop p, ?_, fun i q hq => ?_⟩, hs⟩
  · rw [e1, List.map_append, List.map_append, List.map_take, List.map_drop]
    exact hi
  · rw [e1, ins_get _ _ _ hp] at hq
    rw [ins_get _ _ _ (by omega)]
    by_cases a1 : i < p
    · rw [if_pos a1] at hq ⊢
      obtain ⟨th, b1, b2⟩ := h2 i q hq
      exact ⟨th, b1, b2.stp hs⟩
    · rw [if_neg a1] at hq ⊢
      by_cases a2 : i = p
      · rw [if_pos a2] at hq ⊢
        injection hq with hq
        subst hq
        exact ⟨_, rfl, hg.stp hs⟩
      · rw [if_neg a2] at hq ⊢
        obtain ⟨th, b1, b2⟩ := h2 (i - 1) q hq
        exact ⟨th, b1, b2.stp hs⟩
/-- Add where nothing stands, told by what lay answers. -/
theorem add_core (R : Nat) (most : Int) (vi vt : Value) (ids : List Nat) (ths : List Mk) (x : Nat) (z1 : Sl) (z2 : Sl) (z3 : Int) (w : World) (h : IsR w R most vi vt ids ths) (hl : ids.length ≤ 1000) (hx : x ∉ ids) (Q : Ending → World → Prop)
    (hlay : ∀ p W, Below w.heap.size w W → Pl ids x p → ids[p]? ≠ some x → Calls Try.prog 82 #[.pointer (some ⟨R, 0, none⟩), .int .i64 (p : Int), .int .u32 (x : Int), mV z1 z2 z3] W fun r w' => ∃ c, r = .returned (.int .i64 c) ∧ Q r w') :
    Calls Try.prog 48 #[.pointer (some ⟨R, 0, none⟩), .int .u32 (x : Int), mV z1 z2 z3] w Q := by
  obtain ⟨w0, hw0⟩ : ∃ w0, w0 = w.alloc (.cells (mC z1 z2 z3) 86) := ⟨_, rfl⟩
  have hb0 : Below w.heap.size w w0 := by rw [hw0]; exact (Below.refl _ _).alloc (Nat.le_refl _) _
  have hq0 : w0.heap[w.heap.size]? = some (.cells (mC z1 z2 z3) 86 (0, 0)) := by rw [hw0]; exact heap_alloc_new w _
  have c0 := cell_of_row w0 w.heap.size 0 _ _ _ hq0
  have c1 := cell_of_row w0 w.heap.size 1 _ _ _ hq0
  have c2 := cell_of_row w0 w.heap.size 2 _ _ _ hq0
  simp at c0 c1 c2
  have HP := Lib.hid (place_any R most vi vt ids ths x w0 (h.after hb0) hl)
  have HL := Lib.hid hlay
  have HU := Lib.hid h.up
  have HX := Lib.hid hx
  have HB := Lib.hid hb0
  have H0 := Lib.hid hw0
  clear h hl hlay hx hb0 hw0 hq0
  go_enter Try.func48, Try.ntmps48
  go_upto_region 1 with (fail)
  rw [← H0.out]
  go_wp2_with fail
  refine HP.out.mono ?_
  rintro r w' ⟨rfl, p, hp, rfl⟩
  have hne : ids[p]? ≠ some x := fun e => HX.out ((pl_mem HU.out hp).2 e)
  have hd : decide (ids[p]? = some x) = false := by rw [decide_eq_false_iff_not]; exact hne
  have HLp := Lib.hid (HL.out p _ HB.out hp hne)
  clear hne hp
  rw [hd]
  go_wp2_with fail
  refine HLp.out.mono ?_
  rintro r w1 ⟨c, rfl, hq⟩
  have HQ := Lib.hid hq
  clear hq
  go_wp2
  exact HQ.out
theorem add_full (R : Nat) (most : Int) (vi vt : Value) (ids : List Nat) (ths : List Mk) (x : Nat) (z1 : Sl) (z2 : Sl) (z3 : Int) (w : World) (h : IsR w R most vi vt ids ths) (hl : ids.length ≤ 1000) (hx : x ∉ ids) (hok : 1 ≤ x ∧ x ≤ 2147483647) (hf : min most 2147483647 ≤ (ids.length : Int)) :
    Calls Try.prog 48 #[.pointer (some ⟨R, 0, none⟩), .int .u32 (x : Int), mV z1 z2 z3] w fun r w' => r = .returned (.int .i64 10) ∧ Below w.heap.size w w' :=
  add_core R most vi vt ids ths x z1 z2 z3 w h hl hx _ fun p W hB _ _ => (lay_full R most vi vt ids ths p x z1 z2 z3 W (h.after hB) hok hf).mono fun _ _ ⟨h1, h2⟩ => ⟨10, h1, h1, hB.trans (h2.mono hB.size)⟩
theorem add_new (R : Nat) (most : Int) (vi vt : Value) (ids : List Nat) (ths : List Mk) (x : Nat) (z1 : Sl) (z2 : Sl) (z3 : Int) (w : World) (h : IsR w R most vi vt ids ths) (hl : ids.length < 1000) (hx : x ∉ ids) (hok : 1 ≤ x ∧ x ≤ 2147483647) (hf : (ids.length : Int) < min most 2147483647) :
    Calls Try.prog 48 #[.pointer (some ⟨R, 0, none⟩), .int .u32 (x : Int), mV z1 z2 z3] w fun r w' => r = .returned (.int .i64 0) ∧ ChR R vi vt w w' ∧ ∃ p vi' vt', Pl ids x p ∧ Fz vi vi' w ∧ IsR w' R most vi' vt' (ids.take p ++ [x] ++ ids.drop p) (ths.take p ++ [(z1, z2, z3)] ++ ths.drop p) :=
  add_core R most vi vt ids ths x z1 z2 z3 w h (Nat.le_of_lt hl) hx _ fun p W hB hp hne => (lay_ok R most vi vt ids ths p x z1 z2 z3 W (h.after hB) hl hp hne hok hf).mono fun _ _ ⟨h1, h2, vi', vt', hz, h3⟩ => ⟨0, h1, h1, ChR.from_below (Nat.le_of_lt (lt_of_block h.row)) hB h2, p, vi', vt', hp, (fun g hg => (hz g hg).imp id (Nat.le_trans hB.size)), h3⟩

set_option maxHeartbeats 2000000 in
theorem add_there (R : Nat) (most : Int) (vi vt : Value) (ids : List Nat) (ths : List Mk) (x : Nat) (z1 : Sl) (z2 : Sl) (z3 : Int) (w : World) (h : IsR w R most vi vt ids ths) (hl : ids.length ≤ 1000) (hx : x ∈ ids) :
    Calls Try.prog 48 #[.pointer (some ⟨R, 0, none⟩), .int .u32 (x : Int), mV z1 z2 z3] w fun r w' => r = .returned (.int .i64 11) ∧ Below w.heap.size w w' := by
  obtain ⟨w0, hw0⟩ : ∃ w0, w0 = w.alloc (.cells (mC z1 z2 z3) 86) := ⟨_, rfl⟩
  have hb0 : Below w.heap.size w w0 := by rw [hw0]; exact (Below.refl _ _).alloc (Nat.le_refl _) _
  have HP := Lib.hid (place_any R most vi vt ids ths x w0 (h.after hb0) hl)
  have HU := Lib.hid h.up
  have HX := Lib.hid hx
  have HB := Lib.hid hb0
  have H0 := Lib.hid hw0
  clear h hl hx hb0 hw0
  go_enter Try.func48, Try.ntmps48
  go_upto_region 1 with (fail)
  rw [← H0.out]
  go_wp2_with fail
  refine HP.out.mono ?_
  rintro r w' ⟨rfl, p, hp, rfl⟩
  have hd : decide (ids[p]? = some x) = true := by rw [decide_eq_true_iff]; exact (pl_mem HU.out hp).1 HX.out
  clear hp
  rw [hd]
  go_wp2
  go_ret
  exact ⟨rfl, HB.out⟩
theorem badd_new (B R : Nat) (most : Int) (vi : Value) (L : List Pt) (y1 y2 : Sl) (y3 : Int) (g : Pt) (w : World) (h : Bk w B R most vi L) (hl : L.length ≤ 100) (hm : ∀ e ∈ L, e.id ≠ g.id) (hok : 1 ≤ g.id ∧ g.id ≤ 2147483647) (hf : (L.length : Int) < min most 2147483647) (hg : Gp w R vi (y1, y2, y3) g) :
    Calls Try.prog 48 #[bp R, .int .u32 (g.id : Int), mV y1 y2 y3] w fun r w' => r = .returned (.int .i64 0) ∧ PutP B R most vi (insL L g) w w' := by
  obtain ⟨vt, ths, h1, h2⟩ := h.ex
  refine (add_new R most vi vt _ ths g.id y1 y2 y3 w h1 (by simp; omega) (fun hx => by obtain ⟨e, he, hi⟩ := List.mem_map.1 hx; exact hm e he hi) hok (by simpa using hf)).mono ?_
  rintro r w' ⟨rfl, hch, p, vi', vt', hpl, hz, hi⟩
  have hs := stp_of h1 hch hz
  have hp : p ≤ L.length := by simpa using hpl.1
  have hlt : ths.length = L.length := by simpa using h1.len
  have e1 : insL L g = L.take p ++ [g] ++ L.drop p := (new_insL (fun e he => by
    obtain ⟨j, hj⟩ := List.mem_iff_getElem?.1 he
    rw [List.getElem?_take] at hj
    split at hj
    · exact hpl.2.1 j e.id (by assumption) (by rw [List.getElem?_map, hj]; rfl)
    · cases hj) (fun e he => by
    obtain ⟨j, hj⟩ := List.mem_iff_getElem?.1 he
    rw [List.getElem?_drop] at hj
    have a1 := hpl.2.2 (p + j) e.id (by omega) (by rw [List.getElem?_map, hj]; rfl)
    have a2 := hm e (List.mem_of_getElem? hj)
    omega)).symm
  refine ⟨rfl, vi', ⟨(hs.keep B _ 88 h.blk (by decide) (by decide) (fun e => absurd e (by decide))).trans h.blk, vt', ths.take p ++ [(y1, y2, y3)] ++ ths.drop p, ?_, fun i q hq => ?_⟩, hs⟩
  · rw [e1, List.map_append, List.map_append, List.map_take, List.map_drop]
    exact hi
  · rw [e1, ins_get _ _ _ hp] at hq
    rw [ins_get _ _ _ (by omega)]
    by_cases a1 : i < p
    · rw [if_pos a1] at hq ⊢
      obtain ⟨th, b1, b2⟩ := h2 i q hq
      exact ⟨th, b1, b2.stp hs⟩
    · rw [if_neg a1] at hq ⊢
      by_cases a2 : i = p
      · rw [if_pos a2] at hq ⊢
        injection hq with hq
        subst hq
        exact ⟨_, rfl, hg.stp hs⟩
      · rw [if_neg a2] at hq ⊢
        obtain ⟨th, b1, b2⟩ := h2 (i - 1) q hq
        exact ⟨th, b1, b2.stp hs⟩
def DropP (B R : Nat) (most : Int) (vi : Value) (L' : List Pt) (w : World) (r : Ending) (w' : World) : Prop := (∃ (y1 y2 : Sl) (y3 : Int), r = .returned (.tuple #[mV y1 y2 y3, .bool true])) ∧ PutP B R most vi L' w w'
theorem bdrop (B R : Nat) (most : Int) (vi : Value) (L : List Pt) (x : Nat) (w : World) (h : Bk w B R most vi L) (hl : L.length ≤ 100) (hm : ∃ e ∈ L, e.id = x) :
    Calls Try.prog 50 #[bp R, .int .u32 (x : Int)] w fun r w' => DropP B R most vi (delL L x) w r w' := by
  obtain ⟨vt, ths, h1, h2⟩ := h.ex
  obtain ⟨e0, he0, hi0⟩ := hm
  refine (drop_there R most vi vt _ ths x w h1 (by simp; omega) (List.mem_map.2 ⟨e0, he0, hi0⟩)).mono ?_
  rintro r w' ⟨p, y1, y2, y3, hp, _, rfl, hch, vi', vt', hv, _, hi⟩
  have hs := stp_of h1 hch (fun g hg => .inl (hv ▸ hg) : Fz vi vi' w)
  rw [List.getElem?_map] at hp
  obtain ⟨e, he, hei⟩ := Option.map_eq_some_iff.1 hp
  have hpl := (List.getElem?_eq_some_iff.1 he).1
  have hlt : ths.length = L.length := by simpa using h1.len
  refine ⟨⟨y1, y2, y3, rfl⟩, vi', ⟨(hs.keep B _ 88 h.blk (by decide) (by decide) (fun e => absurd e (by decide))).trans h.blk, vt', ths.take p ++ ths.drop (p + 1), ?_, fun i q hq => ?_⟩, hs⟩
  · rw [← del_delL h.ris he hei, List.map_append, List.map_take, List.map_drop]
    exact hi
  · rw [← del_delL h.ris he hei, del_get _ _ (by omega)] at hq
    rw [del_get _ _ (by omega)]
    by_cases a1 : i < p
    · rw [if_pos a1] at hq ⊢
      obtain ⟨th, b1, b2⟩ := h2 i q hq
      exact ⟨th, b1, b2.stp hs⟩
    · rw [if_neg a1] at hq ⊢
      obtain ⟨th, b1, b2⟩ := h2 (i + 1) q hq
      exact ⟨th, b1, b2.stp hs⟩
theorem Stp.from {R : Nat} {vi vi' : Value} {w W w' : World} (hR : R ≤ w.heap.size) (hB : Below w.heap.size w W) (h : Stp R vi vi' W w') : Stp R vi vi' w w' := (Stp.of_below hR hB).trans h
theorem PutP.from {B R : Nat} {most : Int} {vi : Value} {L' : List Pt} {w W w' : World} (hR : R ≤ w.heap.size) (hB : Below w.heap.size w W) (h : PutP B R most vi L' W w') : PutP B R most vi L' w w' := by
  obtain ⟨vi', h1, h2⟩ := h
  exact ⟨vi', h1, h2.from hR hB⟩
theorem PutP.of_below {B R : Nat} {most : Int} {vi : Value} {L : List Pt} {w w' : World} (h : Bk w B R most vi L) (hb : Below w.heap.size w w') : PutP B R most vi L w w' := ⟨vi, h.after hb, Stp.of_below (Nat.le_of_lt h.ctx.1) hb⟩
end Go.Proofs.Ytemjmnpclknfaaa.P
