/- Party: the document's kick, lead, join. -/
import Derived.Test.YtjlpmdokmfmdiaaDD
namespace Go.Proofs.Ytjlpmdokmfmdiaa.P
open Go.RowKit
set_option maxRecDepth 20000
set_option linter.unusedVariables false
set_option linter.unusedSimpArgs false

theorem dled_err (R : Nat) (vi : Value) (A : Option Addr) (n c : Nat) (L : List Pt) (a p : Nat) (w : World) (h : Dd w R vi A n L) (hI : Inv L) (hl : n ≤ 100) (hz : ledC L a p ≠ 0) :
    Calls Try.prog 121 #[.slice A n c, .int .u32 (a : Int), .int .u32 (p : Int)] w fun r w' => (∃ (i l : Nat) (m v : Sl), r = .returned (.tuple #[.agg (dC i l m v), .int .i64 (ledC L a p : Int)])) ∧ Below w.heap.size w w' := by
  unfold ledC at hz ⊢
  cases hg : getP L (ofP L a) with
  | none => exact (dled_12 R vi A n c L a p w h hI hl hg).mono fun r w' ⟨h1, h2⟩ => ⟨⟨0, 0, ⟨none, 0, 0⟩, ⟨none, 0, 0⟩, h1⟩, h2⟩
  | some g =>
    rw [hg] at hz
    simp only at hz ⊢
    by_cases h1 : g.ld = a
    · rw [if_neg (by simpa using h1)] at hz ⊢
      by_cases h2 : a = p
      · rw [if_pos h2]
        exact (dled_16 R vi A n c L a p w h hI hl g hg h1 h2).mono fun r w' ⟨m, v, q1, _, _, q2⟩ => ⟨⟨_, _, m, v, q1⟩, q2⟩
      · rw [if_neg h2] at hz
        exact absurd rfl hz
    · rw [if_pos h1]
      exact (dled_18 R vi A n c L a p w h hI hl g hg h1).mono fun r w' ⟨m, v, q1, _, _, q2⟩ => ⟨⟨_, _, m, v, q1⟩, q2⟩
theorem lead_eq {L : List Pt} {g : Pt} {p : Nat} (h : Ok1 g) (hp : p ∈ g.mem) : putS L ⟨g.id, p, g.mem, g.inv⟩ = insL L { g with ld := p } ∧ overB ⟨g.id, p, g.mem, g.inv⟩ = false := by
  have ho : overB ⟨g.id, p, g.mem, g.inv⟩ = false := by
    unfold overB
    rw [decide_eq_false_iff_not]
    have h1 := h.two
    have h2 := List.length_pos_of_mem h.ld
    show ¬ (g.mem.length + g.inv.length < 2 ∨ g.mem.length = 0)
    omega
  refine ⟨?_, ho⟩
  unfold putS
  rw [ho, if_neg Bool.false_ne_true]
  unfold fixP
  rw [if_pos hp]
theorem join_eq {L : List Pt} {g : Pt} {p : Nat} (h : Ok1 g) : putS L ⟨g.id, g.ld, g.mem ++ [p], wo g.inv p⟩ = insL L { g with mem := g.mem ++ [p], inv := wo g.inv p } ∧ overB ⟨g.id, g.ld, g.mem ++ [p], wo g.inv p⟩ = false := by
  have ho : overB ⟨g.id, g.ld, g.mem ++ [p], wo g.inv p⟩ = false := by
    unfold overB
    rw [decide_eq_false_iff_not]
    have h2 := List.length_pos_of_mem h.ld
    show ¬ ((g.mem ++ [p]).length + (wo g.inv p).length < 2 ∨ (g.mem ++ [p]).length = 0)
    rw [List.length_append]
    simp only [List.length_cons, List.length_nil]
    omega
  refine ⟨?_, ho⟩
  unfold putS
  rw [ho, if_neg Bool.false_ne_true]
  unfold fixP
  rw [if_pos (List.mem_append_left _ h.ld)]
set_option maxHeartbeats 8000000 in
theorem dlead_any (R : Nat) (vi : Value) (A : Option Addr) (n c : Nat) (L : List Pt) (a p : Nat) (w : World) (h : Dd w R vi A n L) (hI : Inv L) (hl : n ≤ 100) :
    Calls Try.prog 58 #[.slice A n c, .int .u32 (a : Int), .int .u32 (p : Int)] w fun r w' => DP1 R vi (leadS L a p) w r w' := by
  have HD := Lib.hid h
  have HI := Lib.hid hI
  have HL := Lib.hid hl
  by_cases hz : ledC L a p ≠ 0
  · obtain ⟨e0, hc⟩ : ∃ c, c = ledC L a p := ⟨_, rfl⟩
    have e : leadS L a p = (L, (e0 : Int)) := by unfold leadS; rw [if_pos hz, hc]
    rw [e]
    have HLD : Hid (Calls Try.prog 121 #[.slice A n c, .int .u32 (a : Int), .int .u32 (p : Int)] w fun r w' => (∃ (i l : Nat) (m v : Sl), r = .returned (.tuple #[.agg (dC i l m v), .int .i64 (e0 : Int)])) ∧ Below w.heap.size w w') := by
      rw [hc]
      exact dled_err R vi A n c L a p w h hI hl hz
    have hcz : ¬ ((e0 : Int) = 0) := by rw [hc]; omega
    have hcz' : ¬ (e0 = 0) := by rw [hc]; exact hz
    clear h hI hl hz hc e
    go_enter Try.func58, Try.ntmps58
    go_wp2_with fail
    refine HLD.out.mono ?_
    rintro r w1 ⟨⟨i, l, m, v, rfl⟩, hb⟩
    have HF : Hid (∀ w', Below w1.heap.size w1 w' → DP1 R vi (L, (e0 : Int)) w (.returned (.tuple #[.slice A n c, .int .i64 (e0 : Int)])) w') := fun w' hb' => ⟨_, _, _, rfl, HD.out.after (hb.trans (hb'.mono hb.size)), hb.trans (hb'.mono hb.size)⟩
    clear hb
    go_wp2
    go_ret2
    exact HF.out _ ((Below.refl _ _).alloc (Nat.le_refl _) _)
  · obtain ⟨g, hg, hld, hap⟩ := ledC_some hz
    obtain ⟨hm, hgi0⟩ := get_some hg
    have HK := Lib.hid (hI.each g hm)
    have HLD := Lib.hid (dled_0 R vi A n c L a p w h hI hl g hg hld hap)
    obtain ⟨gi, hgi⟩ : ∃ z, z = g.id := ⟨_, rfl⟩
    obtain ⟨gl, hgl⟩ : ∃ z, z = g.ld := ⟨_, rfl⟩
    have HGI : Hid (gi = g.id ∧ gl = g.ld) := ⟨hgi, hgl⟩
    by_cases hp : p ∈ g.mem
    · have e : leadS L a p = (insL L { g with ld := p }, 0) := by unfold leadS; rw [if_neg hz, hg]; simp only; rw [if_pos hp]
      rw [e]
      have HPM : Hid (decide (p ∈ g.mem) = true) := by simp only [Hid]; simpa using hp
      have HEQ : Hid (putS L ⟨gi, p, g.mem, g.inv⟩ = insL L { g with ld := p }) := by simp only [Hid]; rw [hgi]; exact (lead_eq (hI.each g hm) hp).1
      have HTF : Hid (overB ⟨gi, p, g.mem, g.inv⟩ = false) := by simp only [Hid]; rw [hgi]; exact (lead_eq (L := L) (hI.each g hm) hp).2
      clear h hI hl hg e hp hm hgi0 hgi hgl hld hap hz
      go_enter Try.func58, Try.ntmps58
      go_wp2_with fail
      refine HLD.out.mono ?_
      rintro r w1 ⟨m, v, rfl, f1, f2, hb⟩
      rw [← HGI.out.1, ← HGI.out.2]
      obtain ⟨G, hG⟩ : ∃ G, G = w1.heap.size := ⟨_, rfl⟩
      obtain ⟨w3, hw3⟩ : ∃ W, W = w1.alloc (.cells #[.int .u32 (gi : Int), .int .u32 (gl : Int), .slice m.a m.n m.c, .slice v.a v.n v.c] 124) := ⟨_, rfl⟩
      have hq : w3.heap[G]? = some (.cells #[.int .u32 (gi : Int), .int .u32 (gl : Int), .slice m.a m.n m.c, .slice v.a v.n v.c] 124 (0, 0)) := by rw [hw3, hG]; exact heap_alloc_new w1 _
      have hb3 : Below w1.heap.size w1 w3 := by rw [hw3]; exact (Below.refl _ _).alloc (Nat.le_refl _) _
      have z0 := cell_of_row _ G 0 _ _ _ hq
      have z1 := cell_of_row _ G 1 _ _ _ hq
      have z2 := cell_of_row _ G 2 _ _ _ hq
      have z3 := cell_of_row _ G 3 _ _ _ hq
      simp at z0 z1 z2 z3
      have HW3 : Hid (Below w.heap.size w w3 ∧ Fl w3 R vi m g.mem ∧ Fl w3 R vi v g.inv ∧ w3.heap[G]? = some (.cells #[.int .u32 (gi : Int), .int .u32 (gl : Int), .slice m.a m.n m.c, .slice v.a v.n v.c] 124 (0, 0))) := ⟨hb.trans (hb3.mono hb.size), f1.after hb3, f2.after hb3, hq⟩
      have HGW : Hid (w.heap.size ≤ G) := by have := hb.size; simp only [Hid]; omega
      have H3 := Lib.hid hw3
      have HGG := Lib.hid hG
      clear hw3 hG hq hb3 hb f1 f2
      have HH := Lib.hid (has_any m.a m.n m.c g.mem p w3 HW3.out.2.1.1 HW3.out.2.1.rn (by have := HK.out.four; have := HW3.out.2.1.1; omega))
      rw [HPM.out] at HH
      go_upto_region 2 with (fail)
      rw [← H3.out, ← HGG.out]
      go_wp2_with fail
      refine HH.out.mono ?_
      rintro r wq ⟨rfl, hw⟩
      have hw := hw.symm
      subst hw
      have zf : ∀ i, w3.frozen? ⟨G, i, none⟩ = false := fun i => frozen_of_row _ _ i _ _ HW3.out.2.2.2
      obtain ⟨w5, hw5⟩ : ∃ w5, w5 = w3.setCell ⟨G, 1, none⟩ (.int .u32 (p : Int)) := ⟨_, rfl⟩
      have hq5 : w5.heap[G]? = some (.cells #[.int .u32 (gi : Int), .int .u32 (p : Int), .slice m.a m.n m.c, .slice v.a v.n v.c] 124 (0, 0)) := by rw [hw5]; exact heap_setCell_same _ G 1 _ 124 _ HW3.out.2.2.2
      have ho5 : ∀ k, k ≠ G → w5.heap[k]? = w3.heap[k]? := fun k hk => by rw [hw5]; exact Below.heap_setCell _ _ _ _ hk
      have hB5 : Below w.heap.size w w5 := by rw [hw5]; exact HW3.out.1.setCell HGW.out _
      have x0 := cell_of_row _ G 0 _ _ _ hq5
      have x1 := cell_of_row _ G 1 _ _ _ hq5
      have x2 := cell_of_row _ G 2 _ _ _ hq5
      have x3 := cell_of_row _ G 3 _ _ _ hq5
      simp at x0 x1 x2 x3
      have HPT : Hid (Calls Try.prog 119 #[.slice A n c, .agg #[.int .u32 (gi : Int), .int .u32 (p : Int), .slice m.a m.n m.c, .slice v.a v.n v.c]] w5 fun r w' => DPutP R vi (insL L { g with ld := p }) false w5 r w') := by
        have hh := dput_any R vi A n c L ⟨gi, p, g.mem, g.inv⟩ (m) (v) w5 (HD.out.ctx.size (hB5).size) HD.out.n (HD.out.dr.after hB5) HL.out HI.out.ris (fl_oth HW3.out.2.1 ho5 (drow HW3.out.2.2.2)) (fl_oth HW3.out.2.2.1 ho5 (drow HW3.out.2.2.2)) (by show (g.mem).length ≤ 100 ∧ (g.inv).length ≤ 100; have h1 := HK.out.four; have h2 := wo_len g.mem p; have h3 := wo_len g.inv p; (try simp only [List.length_append, List.length_cons, List.length_nil]); omega)
        dsimp only at hh
        rw [HEQ.out, HTF.out] at hh
        exact hh
      have HBW := Lib.hid (hB5)
      have HW5 := Lib.hid hw5
      clear hw5 hq5 ho5 hB5 
      go_upto_region 7 with (fail)
      rw [← HW5.out]
      clear z0 z1 z2 z3 zf
      go_wp2_with fail
      refine HPT.out.mono ?_
      rintro r w9 ⟨A9, n9, c9, rfl, hn9, hd9, hb9⟩
      have HFIN : Hid (DP1 R vi (insL L { g with ld := p }, 0) w (.returned (.tuple #[.slice A9 n9 c9, .int .i64 0])) w9) := ⟨_, _, _, rfl, ⟨hn9, hd9, (HD.out.ctx.size HBW.out.size).size hb9.size⟩, HBW.out.trans (hb9.mono HBW.out.size)⟩
      clear hn9 hd9 hb9
      go_wp2
      go_ret2
      exact HFIN.out
    · have e : leadS L a p = (L, 13) := by unfold leadS; rw [if_neg hz, hg]; simp only; rw [if_neg hp]
      rw [e]
      have HPM : Hid (decide (p ∈ g.mem) = false) := by simp only [Hid]; simpa using hp
      clear h hI hl hg e hp hm hgi0 hgi hgl hld hap hz
      go_enter Try.func58, Try.ntmps58
      go_wp2_with fail
      refine HLD.out.mono ?_
      rintro r w1 ⟨m, v, rfl, f1, f2, hb⟩
      rw [← HGI.out.1, ← HGI.out.2]
      obtain ⟨G, hG⟩ : ∃ G, G = w1.heap.size := ⟨_, rfl⟩
      obtain ⟨w3, hw3⟩ : ∃ W, W = w1.alloc (.cells #[.int .u32 (gi : Int), .int .u32 (gl : Int), .slice m.a m.n m.c, .slice v.a v.n v.c] 124) := ⟨_, rfl⟩
      have hq : w3.heap[G]? = some (.cells #[.int .u32 (gi : Int), .int .u32 (gl : Int), .slice m.a m.n m.c, .slice v.a v.n v.c] 124 (0, 0)) := by rw [hw3, hG]; exact heap_alloc_new w1 _
      have hb3 : Below w1.heap.size w1 w3 := by rw [hw3]; exact (Below.refl _ _).alloc (Nat.le_refl _) _
      have z0 := cell_of_row _ G 0 _ _ _ hq
      have z1 := cell_of_row _ G 1 _ _ _ hq
      have z2 := cell_of_row _ G 2 _ _ _ hq
      have z3 := cell_of_row _ G 3 _ _ _ hq
      simp at z0 z1 z2 z3
      have HW3 : Hid (Below w.heap.size w w3 ∧ Fl w3 R vi m g.mem ∧ Fl w3 R vi v g.inv ∧ w3.heap[G]? = some (.cells #[.int .u32 (gi : Int), .int .u32 (gl : Int), .slice m.a m.n m.c, .slice v.a v.n v.c] 124 (0, 0))) := ⟨hb.trans (hb3.mono hb.size), f1.after hb3, f2.after hb3, hq⟩
      have HGW : Hid (w.heap.size ≤ G) := by have := hb.size; simp only [Hid]; omega
      have H3 := Lib.hid hw3
      have HGG := Lib.hid hG
      clear hw3 hG hq hb3 hb f1 f2
      have HH := Lib.hid (has_any m.a m.n m.c g.mem p w3 HW3.out.2.1.1 HW3.out.2.1.rn (by have := HK.out.four; have := HW3.out.2.1.1; omega))
      rw [HPM.out] at HH
      go_upto_region 2 with (fail)
      rw [← H3.out, ← HGG.out]
      go_wp2_with fail
      refine HH.out.mono ?_
      rintro r wq ⟨rfl, hw⟩
      have hw := hw.symm
      subst hw
      have HFIN : Hid (DP1 R vi (L, 13) w (.returned (.tuple #[.slice A n c, .int .i64 13])) w3) := ⟨_, _, _, rfl, HD.out.after HW3.out.1, HW3.out.1⟩
      go_wp2
      go_ret2
      exact HFIN.out
end Go.Proofs.Ytjlpmdokmfmdiaa.P
