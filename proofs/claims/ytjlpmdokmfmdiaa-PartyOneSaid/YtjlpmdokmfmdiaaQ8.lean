/- Party: who leads; puts and drops, told by parties; a new one. -/
import Derived.Test.YtjlpmdokmfmdiaaQ7
namespace Go.Proofs.Ytjlpmdokmfmdiaa.P
open Go.RowKit
set_option maxRecDepth 20000
set_option linter.unusedVariables false
set_option linter.unusedSimpArgs false

theorem ins_get {α : Type} (l : List α) (p : Nat) (a : α) (h : p ≤ l.length) (i : Nat) : (l.take p ++ [a] ++ l.drop p)[i]? = if i < p then l[i]? else if i = p then some a else l[i - 1]? := by
  by_cases h1 : i < p
  · rw [if_pos h1, List.append_assoc, List.getElem?_append_left (by rw [List.length_take]; omega), List.getElem?_take, if_pos h1]
  · rw [if_neg h1]
    by_cases h2 : i = p
    · subst h2
      rw [if_pos rfl, List.getElem?_append_left (by simp; omega), List.getElem?_append_right (by rw [List.length_take]; omega), List.length_take, Nat.min_eq_left h]
      simp
    · rw [if_neg h2, List.getElem?_append_right (by simp; omega), List.getElem?_drop]
      congr 1
      simp
      omega
theorem del_get {α : Type} (l : List α) (p : Nat) (h : p ≤ l.length) (i : Nat) : (l.take p ++ l.drop (p + 1))[i]? = if i < p then l[i]? else l[i + 1]? := by
  by_cases h1 : i < p
  · rw [if_pos h1, List.getElem?_append_left (by rw [List.length_take]; omega), List.getElem?_take, if_pos h1]
  · rw [if_neg h1, List.getElem?_append_right (by rw [List.length_take]; omega), List.getElem?_drop, List.length_take, Nat.min_eq_left h]
    congr 1
    omega
def PutP (B R : Nat) (most : Int) (vi : Value) (L' : List Pt) (w w' : World) : Prop := ∃ vi', Bk w' B R most vi' L' ∧ Stp R vi vi' w w'
theorem Gp.stp {w w' : World} {R : Nat} {vi vi' : Value} {th : Mk} {p : Pt} (h : Gp w R vi th p) (hs : Stp R vi vi' w w') : Gp w' R vi' th p := ⟨h.1, h.2.1.stp hs, h.2.2.stp hs⟩
theorem bput_there (B R : Nat) (most : Int) (vi : Value) (L : List Pt) (y1 : Nat) (y2 y3 : Sl) (g : Pt) (w0 w : World) (h0 : Bk w0 B R most vi L) (hb0 : Below w0.heap.size w0 w) (hl : L.length ≤ 100) (hm : ∃ e ∈ L, e.id = g.id) (hg : Gp w R vi (y1, y2, y3) g) :
    Calls Try.prog 73 #[bp R, .int .u32 (g.id : Int), mV y1 y2 y3] w fun r w' => r = .returned (.int .i64 0) ∧ PutP B R most vi (insL L g) w w' ∧ ∀ k, w0.heap.size ≤ k → k < w.heap.size → w'.heap[k]? = w.heap[k]? := by
  obtain ⟨vt, ths, h10, h20⟩ := h0.ex
  have h1 := h10.after hb0
  have h := h0.after hb0
  have h2 : ∀ (i : Nat) (p : Pt), L[i]? = some p → ∃ th, ths[i]? = some th ∧ Gp w R vi th p := fun i p hp => by
    obtain ⟨th, e1, e2⟩ := h20 i p hp
    exact ⟨th, e1, e2.after hb0⟩
  have hkeep : ∀ w', ChR R vi vt w w' → ∀ k, w0.heap.size ≤ k → k < w.heap.size → w'.heap[k]? = w.heap[k]? := fun w' hch k hk1 hk2 => hch.2.2 k hk2 (fun e => by have := lt_of_block h10.row; omega) (fun e => by have := (ownlt h10.rio k e.symm).2; omega) (fun e => by have := (ownlt h10.rto k e.symm).2; omega)
  obtain ⟨e0, he0, hi0⟩ := hm
  refine (put_there R most vi vt _ ths g.id y1 y2 y3 w h1 (by simp; omega) (List.mem_map.2 ⟨e0, he0, hi0⟩)).mono ?_
  rintro r w' ⟨rfl, hch, p, hp, hi⟩
  have hs := stp_of h1 hch (fun g hg => .inl hg : Fz vi vi w)
  rw [List.getElem?_map] at hp
  obtain ⟨e, he, hei⟩ := Option.map_eq_some_iff.1 hp
  have hpl := (List.getElem?_eq_some_iff.1 he).1
  refine ⟨rfl, ⟨vi, ⟨(hs.keep B _ 114 h.blk (by decide) (by decide) (fun e => absurd e (by decide))).trans h.blk, vt, ths.set p (y1, y2, y3), ?_, fun i q hq => ?_⟩, hs⟩, hkeep w' hch⟩
  · rw [← set_insL h.ris he hei, List.map_set]
    have e1 : (L.map (·.id)).set p g.id = L.map (·.id) := by
      refine List.ext_getElem? fun i => ?_
      rw [List.getElem?_set]
      split
      · subst_vars
        rw [List.getElem?_map, he]
        simp [hpl, hei]
      · rfl
    rw [e1]
    exact hi
  · rw [← set_insL h.ris he hei, List.getElem?_set] at hq
    rw [List.getElem?_set]
    by_cases hip : p = i
    · rw [if_pos hip] at hq ⊢
      rw [if_pos (by omega)] at hq
      injection hq with hq
      subst hq
      refine ⟨_, if_pos (by have := h1.len; simp at this; omega), hg.stp hs⟩
    · rw [if_neg hip] at hq ⊢
      obtain ⟨th, a1, a2⟩ := h2 i q hq
      exact ⟨th, a1, a2.stp hs⟩
theorem bput_new (B R : Nat) (most : Int) (vi : Value) (L : List Pt) (y1 : Nat) (y2 y3 : Sl) (g : Pt) (w : World) (h : Bk w B R most vi L) (hl : L.length ≤ 100) (hm : ∀ e ∈ L, e.id ≠ g.id) (hok : 1 ≤ g.id ∧ g.id ≤ 2147483647) (hf : (L.length : Int) < min most 2147483647) (hg : Gp w R vi (y1, y2, y3) g) :
    Calls Try.prog 73 #[bp R, .int .u32 (g.id : Int), mV y1 y2 y3] w fun r w' => r = .returned (.int .i64 0) ∧ PutP B R most vi (insL L g) w w' := by
  obtain ⟨vt, ths, h1, h2⟩ := h.ex
  refine (put_new R most vi vt _ ths g.id y1 y2 y3 w h1 (by simp; omega) (fun hx => by obtain ⟨e, he, hi⟩ := List.mem_map.1 hx; exact hm e he hi) hok (by simpa using hf)).mono ?_
  rintro r w' ⟨rfl, hch, p, vi', vt', hpl, hz, hi⟩
  have hs := stp_of h1 hch hz
  have hp : p ≤ L.length := by simpa using hpl.1
  have hlt : ths.length = L.length := by simpa using h1.len
  have e1 : insL L g = L.take p ++ [g] ++ L.drop p := (new_insL (fun e he => by
    obtain ⟨j, hj⟩ := List.mem_iff_getElem?.1 he
    rw [List.getElem?_take] at hj
    split at hj
    · exact hpl.2.1 j e.id (by assumption) (by rw [List.getElem?_map, hj]; rfl)
    · cases hj) (fun e he => by
    obtain ⟨j, hj⟩ := List.mem_iff_getElem?.1 he
    rw [List.getElem?_drop] at hj
    have a1 := hpl.2.2 (p + j) e.id (by omega) (by rw [List.getElem?_map, hj]; rfl)
    have a2 := hm e (List.mem_of_getElem? hj)
    omega)).symm
  refine ⟨rfl, vi', ⟨(hs.keep B _ 114 h.blk (by decide) (by decide) (fun e => absurd e (by decide))).trans h.blk, vt', ths.take p ++ [(y1, y2, y3)] ++ ths.drop p, ?_, fun i q hq => ?_⟩, hs⟩
  · rw [e1, List.map_append, List.map_append, List.map_take, List.map_drop]
    exact hi
  · rw [e1, ins_get _ _ _ hp] at hq
    rw [ins_get _ _ _ (by omega)]
    by_cases a1 : i < p
    · rw [if_pos a1] at hq ⊢
      obtain ⟨th, b1, b2⟩ := h2 i q hq
      exact ⟨th, b1, b2.stp hs⟩
    · rw [if_neg a1] at hq ⊢
      by_cases a2 : i = p
      · rw [if_pos a2] at hq ⊢
        injection hq with hq
        subst hq
        exact ⟨_, rfl, hg.stp hs⟩
      · rw [if_neg a2] at hq ⊢
        obtain ⟨th, b1, b2⟩ := h2 (i - 1) q hq
        exact ⟨th, b1, b2.stp hs⟩
def DropP (B R : Nat) (most : Int) (vi : Value) (L' : List Pt) (w : World) (r : Ending) (w' : World) : Prop := (∃ (y1 : Nat) (y2 y3 : Sl), r = .returned (.tuple #[mV y1 y2 y3, .bool true])) ∧ PutP B R most vi L' w w'
theorem bdrop (B R : Nat) (most : Int) (vi : Value) (L : List Pt) (x : Nat) (w : World) (h : Bk w B R most vi L) (hl : L.length ≤ 100) (hm : ∃ e ∈ L, e.id = x) :
    Calls Try.prog 128 #[bp R, .int .u32 (x : Int)] w fun r w' => DropP B R most vi (delL L x) w r w' := by
  obtain ⟨vt, ths, h1, h2⟩ := h.ex
  obtain ⟨e0, he0, hi0⟩ := hm
  refine (drop_there R most vi vt _ ths x w h1 (by simp; omega) (List.mem_map.2 ⟨e0, he0, hi0⟩)).mono ?_
  rintro r w' ⟨p, y1, y2, y3, hp, _, rfl, hch, vi', vt', hv, _, hi⟩
  have hs := stp_of h1 hch (fun g hg => .inl (hv ▸ hg) : Fz vi vi' w)
  rw [List.getElem?_map] at hp
  obtain ⟨e, he, hei⟩ := Option.map_eq_some_iff.1 hp
  have hpl := (List.getElem?_eq_some_iff.1 he).1
  have hlt : ths.length = L.length := by simpa using h1.len
  refine ⟨⟨y1, y2, y3, rfl⟩, vi', ⟨(hs.keep B _ 114 h.blk (by decide) (by decide) (fun e => absurd e (by decide))).trans h.blk, vt', ths.take p ++ ths.drop (p + 1), ?_, fun i q hq => ?_⟩, hs⟩
  · rw [← del_delL h.ris he hei, List.map_append, List.map_take, List.map_drop]
    exact hi
  · rw [← del_delL h.ris he hei, del_get _ _ (by omega)] at hq
    rw [del_get _ _ (by omega)]
    by_cases a1 : i < p
    · rw [if_pos a1] at hq ⊢
      obtain ⟨th, b1, b2⟩ := h2 i q hq
      exact ⟨th, b1, b2.stp hs⟩
    · rw [if_neg a1] at hq ⊢
      obtain ⟨th, b1, b2⟩ := h2 (i + 1) q hq
      exact ⟨th, b1, b2.stp hs⟩
theorem Stp.from {R : Nat} {vi vi' : Value} {w W w' : World} (hR : R ≤ w.heap.size) (hB : Below w.heap.size w W) (h : Stp R vi vi' W w') : Stp R vi vi' w w' := (Stp.of_below hR hB).trans h
theorem PutP.from {B R : Nat} {most : Int} {vi : Value} {L' : List Pt} {w W w' : World} (hR : R ≤ w.heap.size) (hB : Below w.heap.size w W) (h : PutP B R most vi L' W w') : PutP B R most vi L' w w' := by
  obtain ⟨vi', h1, h2⟩ := h
  exact ⟨vi', h1, h2.from hR hB⟩
theorem PutP.of_below {B R : Nat} {most : Int} {vi : Value} {L : List Pt} {w w' : World} (h : Bk w B R most vi L) (hb : Below w.heap.size w w') : PutP B R most vi L w w' := ⟨vi, h.after hb, Stp.of_below (Nat.le_of_lt h.ctx.1) hb⟩
/-- The least id that is free. -/
def lst (L : List Pt) : Nat := ((List.range (L.length + 1)).find? fun k => decide (k + 1 ∉ L.map (·.id))).getD 0 + 1
theorem fr_lst {L : List Pt} {f : Nat} (h : Fr (L.map (·.id)) f) : f = lst L := by
  obtain ⟨h1, h2, h3, h4⟩ := h
  rw [List.length_map] at h2
  unfold lst
  have e : (List.range (L.length + 1)).find? (fun k => decide (k + 1 ∉ L.map (·.id))) = some (f - 1) := by
    rw [List.find?_range_eq_some]
    refine ⟨by rw [decide_eq_true_iff, show f - 1 + 1 = f by omega]; exact h3, List.mem_range.2 (by omega), fun j hj => ?_⟩
    have := h4 (j + 1) (by omega) (by omega)
    simp only [Bool.not_eq_true']
    rw [decide_eq_false_iff_not]
    exact fun hn => hn this
  rw [e]
  simp
  omega
def FoundP (B R : Nat) (most : Int) (vi : Value) (L : List Pt) (a p : Nat) (w : World) (r : Ending) (w' : World) : Prop :=
  (min most 2147483647 ≤ (L.length : Int) ∧ r = .returned (.tuple #[.int .u32 0, .int .i64 10]) ∧ PutP B R most vi L w w') ∨
  ((L.length : Int) < min most 2147483647 ∧ Fr (L.map (·.id)) (lst L) ∧ r = .returned (.tuple #[.int .u32 (lst L : Int), .int .i64 0]) ∧ PutP B R most vi (insL L ⟨lst L, a, [a], [p]⟩) w w')
set_option maxHeartbeats 4000000 in
theorem found_any (B R : Nat) (most : Int) (vi : Value) (L : List Pt) (a p : Nat) (w : World) (h : Bk w B R most vi L) (hl : L.length ≤ 100) :
    Calls Try.prog 70 #[bp B, .int .u32 (a : Int), .int .u32 (p : Int)] w fun r w' => FoundP B R most vi L a p w r w' := by
  have c0 := cell_of_row w B 0 _ _ _ h.blk
  simp at c0
  have HBK := Lib.hid h
  by_cases hf : min most 2147483647 ≤ (L.length : Int)
  · have HF : Hid (Calls Try.prog 124 #[bp R] w fun r w' => r = .returned (.int .u32 0) ∧ Below w.heap.size w w') := by
      obtain ⟨vt, ths, h1, _⟩ := h.ex
      exact free_full R most vi vt _ ths w h1 (by simpa using hf)
    have HFF := Lib.hid hf
    clear h hf
    go_enter Try.func70, Try.ntmps70
    go_wp2_with fail
    refine HF.out.mono ?_
    rintro r w1 ⟨rfl, hb⟩
    have HR : Hid (FoundP B R most vi L a p w (.returned (.tuple #[.int .u32 0, .int .i64 10])) w1) := .inl ⟨HFF.out, rfl, PutP.of_below HBK.out hb⟩
    clear hb
    go_wp2
    go_ret2
    exact HR.out
  · have HF : Hid (Calls Try.prog 124 #[bp R] w fun r w' => (∃ f : Nat, Fr (L.map (·.id)) f ∧ r = .returned (.int .u32 (f : Int))) ∧ Below w.heap.size w w') := by
      obtain ⟨vt, ths, h1, _⟩ := h.ex
      exact free_least R most vi vt _ ths w h1 (by simp; omega) (by simpa using hf)
    have HFF : Hid ((L.length : Int) < min most 2147483647) := by simp only [Hid]; omega
    clear h hf
    go_enter Try.func70, Try.ntmps70
    go_wp2_with fail
    refine HF.out.mono ?_
    rintro r w1 ⟨⟨f, hf, rfl⟩, hb⟩
    have hfl := fr_lst hf
    obtain ⟨W, hW⟩ : ∃ W, W = (w1.alloc (.cells #[.int .u32 (a : Int)] 26)).alloc (.cells #[.int .u32 (p : Int)] 26) := ⟨_, rfl⟩
    have hb1 : Below w1.heap.size w1 W := by rw [hW]; exact ((Below.refl _ _).alloc (Nat.le_refl _) _).alloc (by simp) _
    have q1 : W.heap[w1.heap.size]? = some (.cells #[.int .u32 (a : Int)] 26 (0, 0)) := by rw [hW]; exact (Below.heap_alloc _ _ _ (by simp)).trans (heap_alloc_new w1 _)
    have q2 : W.heap[w1.heap.size + 1]? = some (.cells #[.int .u32 (p : Int)] 26 (0, 0)) := by
      have := heap_alloc_new (w1.alloc (.cells #[.int .u32 (a : Int)] 26)) (.cells #[.int .u32 (p : Int)] 26)
      rw [World.size_alloc] at this
      rw [hW]; exact this
    have hbk := HBK.out.after hb
    have hbk2 := hbk.after hb1
    have hc := hbk.ctx
    have one : ∀ (G x : Nat), w1.heap.size ≤ G → W.heap[G]? = some (.cells #[.int .u32 (x : Int)] 26 (0, 0)) → Fl W R vi ⟨some ⟨G, 0, none⟩, 1, 1⟩ [x] := fun G x hG hq => ⟨rfl, fun _ => ⟨G, 0, rfl, by have := hc.1; omega, fun e => by have := hc.2 G e; omega, ⟨_, hq⟩, fun j y hj => by
      rcases j with _ | j
      · simp at hj
        subst hj
        exact cell_of_row W G 0 _ _ _ hq
      · simp at hj⟩⟩
    have HPUT := Lib.hid (bput_new B R most vi L a ⟨some ⟨w1.heap.size, 0, none⟩, 1, 1⟩ ⟨some ⟨w1.heap.size + 1, 0, none⟩, 1, 1⟩ ⟨lst L, a, [a], [p]⟩ W hbk2 hl (fun e he hi => hf.2.2.1 (by rw [hfl]; exact List.mem_map.2 ⟨e, he, hi⟩)) (by show 1 ≤ lst L ∧ lst L ≤ 2147483647; have := hf.1; have := hf.2.1; rw [List.length_map] at this; omega) HFF.out ⟨rfl, one _ _ (Nat.le_refl _) q1, one _ _ (by omega) q2⟩)
    have HR : Hid (∀ w', PutP B R most vi (insL L ⟨lst L, a, [a], [p]⟩) W w' → FoundP B R most vi L a p w (.returned (.tuple #[.int .u32 (lst L : Int), .int .i64 0])) w') := fun w' hp => .inr ⟨HFF.out, hfl ▸ hf, rfl, hp.from (Nat.le_of_lt HBK.out.ctx.1) (hb.trans (hb1.mono hb.size))⟩
    have c0 := cell_of_row w1 B 0 _ _ _ hbk.blk
    have c9 := cell_of_row W B 0 _ _ _ hbk2.blk
    simp at c0 c9
    have hz : ¬ ((f : Int) = 0) := by have := hf.1; omega
    have hz' : ¬ (f = 0) := by have := hf.1; omega
    rw [← hfl] at HPUT HR
    have HW := Lib.hid hW
    rw [hW] at c9
    simp only at HPUT
    clear hb hf hb1 q1 q2 hbk hbk2 hc one hW hfl
    go_wp2_with fail
    rw [← HW.out]
    refine HPUT.out.mono ?_
    rintro r w3 ⟨rfl, hp⟩
    have HF3 := Lib.hid (HR.out w3 hp)
    clear hp
    go_wp2
    go_ret2
    exact HF3.out
end Go.Proofs.Ytjlpmdokmfmdiaa.P
