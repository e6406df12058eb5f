/- Friend: an act on both: ask. -/
import Derived.Test.YtohcibmlkngaeaaE2
namespace Go.Proofs.Ytohcibmlkngaeaa
open Go.RowKit Go.Maps
set_option maxRecDepth 20000
set_option linter.unusedVariables false
set_option linter.unusedSimpArgs false

set_option maxHeartbeats 4000000 in
theorem do_0 (L M N n c a b : Nat) (A : Option Addr) (l l2 : List Rw) (w : World) (h : Gr w L M N l) (hI : Inv l) (hI2 : Inv l2) (hN : N ≤ 900) (ha : u32ok a) (hb : u32ok b) (hn : n = l2.length) (hR : Rr w A l2) (hl : n ≤ 200) :
    Calls Try.prog 8 #[gp L, .slice A n c, .agg #[.int .u8 0, u a, u b]] w (DoP L M N l l2 (askL l a b).1 (askL l2 a b).1 w) := by
  obtain ⟨w0, hw0⟩ : ∃ w0, w0 = w.alloc (.cells #[.int .u8 0, u a, u b] 28) := ⟨_, rfl⟩
  have hb0 : Below w.heap.size w w0 := by rw [hw0]; exact (Below.refl _ _).alloc (Nat.le_refl _) _
  have hq0 : w0.heap[w.heap.size]? = some (.cells #[.int .u8 0, u a, u b] 28 (0, 0)) := by rw [hw0]; exact heap_alloc_new w _
  have HML : Hid (M < w.heap.size) := by obtain ⟨D, ⟨_, hm⟩, _⟩ := h; exact hm.lt
  have HP := Lib.hid (ask_any L M N a b l w0 (h.below hb0) hI (by omega) ha hb)
  have HD : Hid (∀ W, Rr W A l2 → _) := fun W hW => rask_any A n c a b l2 W hn hW hl hI2
  have HR0 : Hid (Rr w0 A l2) := hR.below hb0
  have HMAP : Hid (∃ (es : Array MapEntry) (cl : Nat), w0.heap[M]? = some (Obj.map es cl)) := (h.below hb0).isMap
  obtain ⟨e1, he1⟩ : ∃ e, e = (askL l a b).2.2 := ⟨_, rfl⟩
  obtain ⟨e2, he2⟩ : ∃ e, e = (askL l2 a b).2.2 := ⟨_, rfl⟩
  obtain ⟨p1, hp1⟩ : ∃ p, p = (askL l a b).1 := ⟨_, rfl⟩
  obtain ⟨p2, hp2⟩ : ∃ p, p = (askL l2 a b).1 := ⟨_, rfl⟩
  obtain ⟨b1, hb1⟩ : ∃ e, e = (askL l a b).2.1 := ⟨_, rfl⟩
  obtain ⟨b2, hb2⟩ : ∃ e, e = (askL l2 a b).2.1 := ⟨_, rfl⟩
  have HEQ : Hid (l2 = l → e1 = e2 ∧ b1 = b2) := fun e => by subst e; exact ⟨he1.trans he2.symm, hb1.trans hb2.symm⟩
  rw [← he1, ← hp1, ← hb1] at HP
  simp only [← he2, ← hp2, ← hb2] at HD
  rw [← hp1, ← hp2]
  have HQ0 := Lib.hid hq0
  have HB0 := Lib.hid hb0
  have H0 := Lib.hid hw0
  have g0 := cell_of_row w0 w.heap.size 0 _ _ _ hq0
  have g1 := cell_of_row w0 w.heap.size 1 _ _ _ hq0
  have g2 := cell_of_row w0 w.heap.size 2 _ _ _ hq0
  simp at g0 g1 g2
  clear he1 he2 hp1 hp2 hb1 hb2 hq0 hb0 hw0 h hI hI2 hR hn
  go_enter Try.func8, Try.ntmps8
  go_upto_region 1 with (fail)
  rw [← H0.out]
  go_wp2_with fail
  refine HP.out.mono ?_
  rintro r w2 ⟨rfl, gr2, k2⟩
  have HGR2 : Hid (Gr w2 L M (N + 1) p1) := gr2.up (by omega)
  have HK2 := Lib.hid k2
  have hq2 : w2.heap[w.heap.size]? = some (.cells #[.int .u8 0, u a, u b] 28 (0, 0)) := (k2.2.1 _ (lt_of_block HQ0.out) (by have := HML.out; omega)).trans HQ0.out
  have HR2 : Hid (Rr w2 A l2) := HR0.out.chm HMAP.out k2
  clear g0 g1 g2 gr2 k2
  have g0 := cell_of_row w2 w.heap.size 0 _ _ _ hq2
  have g1 := cell_of_row w2 w.heap.size 1 _ _ _ hq2
  have g2 := cell_of_row w2 w.heap.size 2 _ _ _ hq2
  simp at g0 g1 g2
  clear hq2
  go_wp2_with fail
  refine (HD.out w2 HR2.out).mono ?_
  rintro r w3 ⟨B, m, c', rfl, hm3, hR3, hb3⟩
  have HRES : Hid (m = p2.length ∧ Rr w3 B p2 ∧ Gr w3 L M (N + 1) p1 ∧ ChM M w w3) := ⟨hm3, hR3, HGR2.out.below hb3, ((ChM.of_below HB0.out).trans HK2.out).trans (ChM.of_below hb3)⟩
  clear hm3 hR3 hb3 g0 g1 g2
  by_cases he : e1 = e2
  · subst he
    cases b1 <;> cases b2
    · go_wp2
      exact bodyPost_ret (v := .tuple #[.slice B m c', .bool true]) (by simp [results, Try.results8, go_sem]) rfl ⟨_, _, _, _, rfl, fun _ => rfl, HRES.out⟩
    · go_wp2
      exact bodyPost_ret (v := .tuple #[.slice B m c', .bool false]) (by simp [results, Try.results8, go_sem]) rfl ⟨_, _, _, _, rfl, (fun e => absurd (HEQ.out e).2 (by decide)), HRES.out⟩
    · go_wp2
      exact bodyPost_ret (v := .tuple #[.slice B m c', .bool false]) (by simp [results, Try.results8, go_sem]) rfl ⟨_, _, _, _, rfl, (fun e => absurd (HEQ.out e).2 (by decide)), HRES.out⟩
    · go_wp2
      exact bodyPost_ret (v := .tuple #[.slice B m c', .bool true]) (by simp [results, Try.results8, go_sem]) rfl ⟨_, _, _, _, rfl, fun _ => rfl, HRES.out⟩
  · have t : (e1 == e2) = false := by simp [he]
    have HNE := Lib.hid he
    clear he
    go_wp2
    exact bodyPost_ret (v := .tuple #[.slice B m c', .bool false]) (by simp [results, Try.results8, go_sem]) rfl ⟨_, _, _, _, rfl, (fun e => absurd (HEQ.out e).1 HNE.out), HRES.out⟩
set_option maxHeartbeats 4000000 in
theorem do_1 (L M N n c a b : Nat) (A : Option Addr) (l l2 : List Rw) (w : World) (h : Gr w L M N l) (hI : Inv l) (hI2 : Inv l2) (hN : N ≤ 900) (ha : u32ok a) (hb : u32ok b) (hn : n = l2.length) (hR : Rr w A l2) (hl : n ≤ 200) :
    Calls Try.prog 8 #[gp L, .slice A n c, .agg #[.int .u8 1, u a, u b]] w (DoP L M N l l2 (accL l a b).1 (accL l2 a b).1 w) := by
  obtain ⟨w0, hw0⟩ : ∃ w0, w0 = w.alloc (.cells #[.int .u8 1, u a, u b] 28) := ⟨_, rfl⟩
  have hb0 : Below w.heap.size w w0 := by rw [hw0]; exact (Below.refl _ _).alloc (Nat.le_refl _) _
  have hq0 : w0.heap[w.heap.size]? = some (.cells #[.int .u8 1, u a, u b] 28 (0, 0)) := by rw [hw0]; exact heap_alloc_new w _
  have HML : Hid (M < w.heap.size) := by obtain ⟨D, ⟨_, hm⟩, _⟩ := h; exact hm.lt
  have HP := Lib.hid (accept_any L M N a b l w0 (h.below hb0) hI (by omega) ha hb)
  have HD : Hid (∀ W, Rr W A l2 → _) := fun W hW => raccept_any A n c a b l2 W hn hW hl hI2
  have HR0 : Hid (Rr w0 A l2) := hR.below hb0
  have HMAP : Hid (∃ (es : Array MapEntry) (cl : Nat), w0.heap[M]? = some (Obj.map es cl)) := (h.below hb0).isMap
  obtain ⟨e1, he1⟩ : ∃ e, e = (accL l a b).2 := ⟨_, rfl⟩
  obtain ⟨e2, he2⟩ : ∃ e, e = (accL l2 a b).2 := ⟨_, rfl⟩
  obtain ⟨p1, hp1⟩ : ∃ p, p = (accL l a b).1 := ⟨_, rfl⟩
  obtain ⟨p2, hp2⟩ : ∃ p, p = (accL l2 a b).1 := ⟨_, rfl⟩
  have HEQ : Hid (l2 = l → e1 = e2) := fun e => by subst e; exact he1.trans he2.symm
  rw [← he1, ← hp1] at HP
  simp only [← he2, ← hp2] at HD
  rw [← hp1, ← hp2]
  have HQ0 := Lib.hid hq0
  have HB0 := Lib.hid hb0
  have H0 := Lib.hid hw0
  have g0 := cell_of_row w0 w.heap.size 0 _ _ _ hq0
  have g1 := cell_of_row w0 w.heap.size 1 _ _ _ hq0
  have g2 := cell_of_row w0 w.heap.size 2 _ _ _ hq0
  simp at g0 g1 g2
  clear he1 he2 hp1 hp2 hq0 hb0 hw0 h hI hI2 hR hn
  go_enter Try.func8, Try.ntmps8
  go_upto_region 1 with (fail)
  rw [← H0.out]
  go_wp2_with fail
  refine HP.out.mono ?_
  rintro r w2 ⟨rfl, gr2, k2⟩
  have HGR2 : Hid (Gr w2 L M (N + 1) p1) := gr2.up (by omega)
  have HK2 := Lib.hid k2
  have hq2 : w2.heap[w.heap.size]? = some (.cells #[.int .u8 1, u a, u b] 28 (0, 0)) := (k2.2.1 _ (lt_of_block HQ0.out) (by have := HML.out; omega)).trans HQ0.out
  have HR2 : Hid (Rr w2 A l2) := HR0.out.chm HMAP.out k2
  clear g0 g1 g2 gr2 k2
  have g0 := cell_of_row w2 w.heap.size 0 _ _ _ hq2
  have g1 := cell_of_row w2 w.heap.size 1 _ _ _ hq2
  have g2 := cell_of_row w2 w.heap.size 2 _ _ _ hq2
  simp at g0 g1 g2
  clear hq2
  go_wp2_with fail
  refine (HD.out w2 HR2.out).mono ?_
  rintro r w3 ⟨B, m, c', rfl, hm3, hR3, hb3⟩
  have HRES : Hid (m = p2.length ∧ Rr w3 B p2 ∧ Gr w3 L M (N + 1) p1 ∧ ChM M w w3) := ⟨hm3, hR3, HGR2.out.below hb3, ((ChM.of_below HB0.out).trans HK2.out).trans (ChM.of_below hb3)⟩
  clear hm3 hR3 hb3 g0 g1 g2
  by_cases he : e1 = e2
  · subst he
    go_wp2
    exact bodyPost_ret (v := .tuple #[.slice B m c', .bool true]) (by simp [results, Try.results8, go_sem]) rfl ⟨_, _, _, _, rfl, fun _ => rfl, HRES.out⟩
  · have t : (e1 == e2) = false := by simp [he]
    have HNE := Lib.hid he
    clear he
    go_wp2
    exact bodyPost_ret (v := .tuple #[.slice B m c', .bool false]) (by simp [results, Try.results8, go_sem]) rfl ⟨_, _, _, _, rfl, (fun e => absurd (HEQ.out e) HNE.out), HRES.out⟩
end Go.Proofs.Ytohcibmlkngaeaa
