/- Party: the document's join. -/
import Derived.Test.YtjlpmdokmfmdiaaDE
namespace Go.Proofs.Ytjlpmdokmfmdiaa.P
open Go.RowKit
set_option maxRecDepth 20000
set_option linter.unusedVariables false
set_option linter.unusedSimpArgs false

set_option maxHeartbeats 8000000 in
theorem djoin_any (R : Nat) (vi : Value) (A : Option Addr) (n c : Nat) (L : List Pt) (x p : Nat) (w : World) (h : Dd w R vi A n L) (hI : Inv L) (hl : n ≤ 100) :
    Calls Try.prog 54 #[.slice A n c, .int .u32 (x : Int), .int .u32 (p : Int)] w fun r w' => DP1 R vi (joinS L x p) w r w' := by
  have HD := Lib.hid h
  have HI := Lib.hid hI
  have HL := Lib.hid hl
  have HOF := Lib.hid (fun W (hW : Below w.heap.size w W) => dof_any R vi A n c L p W h.n (h.dr.after hW) hl (fun e he => by have := (hI.each e he).four; omega))
  cases hg : getP L x with
  | none =>
    have e : joinS L x p = (L, 12) := by unfold joinS; rw [hg]
    rw [e]
    have HG := Lib.hid (dget_none R vi A n c L x w h.n h.dr hl hg)
    clear h hI hl hg e
    go_enter Try.func54, Try.ntmps54
    go_wp2_with fail
    refine HG.out.mono ?_
    rintro r w1 ⟨rfl, hb⟩
    have HF : Hid (∀ w', Below w1.heap.size w1 w' → DP1 R vi (L, 12) w (.returned (.tuple #[.slice A n c, .int .i64 12])) w') := fun w' hb' => ⟨_, _, _, rfl, HD.out.after (hb.trans (hb'.mono hb.size)), hb.trans (hb'.mono hb.size)⟩
    clear hb
    go_wp2
    go_ret2
    exact HF.out _ ((Below.refl _ _).alloc (Nat.le_refl _) _)
  | some g =>
    obtain ⟨hm, hix⟩ := get_some hg
    have HK := Lib.hid (hI.each g hm)
    have HG := Lib.hid (dget_some R vi A n c L x g w h.n h.dr hl hg)
    obtain ⟨gi, hgi⟩ : ∃ z, z = g.id := ⟨_, rfl⟩
    obtain ⟨gl, hgl⟩ : ∃ z, z = g.ld := ⟨_, rfl⟩
    have HGI : Hid (gi = g.id ∧ gl = g.ld) := ⟨hgi, hgl⟩
    by_cases hp : p ∈ g.inv
    · have HPM : Hid (decide (p ∈ g.inv) = true) := by simp only [Hid]; simpa using hp
      by_cases ho : ofP L p ≠ 0
      · have e : joinS L x p = (L, 19) := by unfold joinS; rw [hg]; simp only; rw [if_pos hp, if_pos ho]
        rw [e]
        obtain ⟨z, hz⟩ : ∃ z, z = ofP L p := ⟨_, rfl⟩
        rw [← hz] at ho
        simp only [← hz] at HOF
        have hoz : ¬ ((z : Int) = 0) := by omega
        clear h hI hl hg e hp hm hix hgi hgl hz
        go_enter Try.func54, Try.ntmps54
        go_wp2_with fail
        refine HG.out.mono ?_
        rintro r w1 ⟨m, v, rfl, f1, f2, hb⟩
        rw [← HGI.out.1, ← HGI.out.2]
        obtain ⟨G, hG⟩ : ∃ G, G = w1.heap.size := ⟨_, rfl⟩
        obtain ⟨w3, hw3⟩ : ∃ W, W = w1.alloc (.cells #[.int .u32 (gi : Int), .int .u32 (gl : Int), .slice m.a m.n m.c, .slice v.a v.n v.c] 124) := ⟨_, rfl⟩
        have hq : w3.heap[G]? = some (.cells #[.int .u32 (gi : Int), .int .u32 (gl : Int), .slice m.a m.n m.c, .slice v.a v.n v.c] 124 (0, 0)) := by rw [hw3, hG]; exact heap_alloc_new w1 _
        have hb3 : Below w1.heap.size w1 w3 := by rw [hw3]; exact (Below.refl _ _).alloc (Nat.le_refl _) _
        have z0 := cell_of_row _ G 0 _ _ _ hq
        have z1 := cell_of_row _ G 1 _ _ _ hq
        have z2 := cell_of_row _ G 2 _ _ _ hq
        have z3 := cell_of_row _ G 3 _ _ _ hq
        simp at z0 z1 z2 z3
        have HW3 : Hid (Below w.heap.size w w3 ∧ Fl w3 R vi m g.mem ∧ Fl w3 R vi v g.inv ∧ w3.heap[G]? = some (.cells #[.int .u32 (gi : Int), .int .u32 (gl : Int), .slice m.a m.n m.c, .slice v.a v.n v.c] 124 (0, 0))) := ⟨hb.trans (hb3.mono hb.size), f1.after hb3, f2.after hb3, hq⟩
        have HGW : Hid (w.heap.size ≤ G) := by have := hb.size; simp only [Hid]; omega
        have H3 := Lib.hid hw3
        have HGG := Lib.hid hG
        clear hw3 hG hq hb3 hb f1 f2
        have HH := Lib.hid (has_any v.a v.n v.c g.inv p w3 HW3.out.2.2.1.1 HW3.out.2.2.1.rn (by have := HK.out.four; have := HW3.out.2.2.1.1; omega))
        rw [HPM.out] at HH
        have HOF3 := Lib.hid (HOF.out w3 HW3.out.1)
        go_upto_region 2 with (fail)
        rw [← H3.out, ← HGG.out]
        go_wp2_with fail
        refine HH.out.mono ?_
        rintro r wq ⟨rfl, hw⟩
        have hw := hw.symm
        subst hw
        go_wp2_with fail
        refine HOF3.out.mono ?_
        rintro r wq ⟨rfl, hw⟩
        have hw := hw.symm
        subst hw
        have HFIN : Hid (DP1 R vi (L, 19) w (.returned (.tuple #[.slice A n c, .int .i64 19])) w3) := ⟨_, _, _, rfl, HD.out.after HW3.out.1, HW3.out.1⟩
        go_wp2
        go_ret2
        exact HFIN.out
      · have e : joinS L x p = (insL L { g with mem := g.mem ++ [p], inv := wo g.inv p }, 0) := by unfold joinS; rw [hg]; simp only; rw [if_pos hp, if_neg ho]
        rw [e]
        have hoz : ofP L p = 0 := by omega
        simp only [hoz] at HOF
        have HEQ : Hid (putS L ⟨gi, gl, g.mem ++ [p], wo g.inv p⟩ = insL L { g with mem := g.mem ++ [p], inv := wo g.inv p }) := by simp only [Hid]; rw [hgi, hgl]; exact (join_eq (hI.each g hm)).1
        have HTF : Hid (overB ⟨gi, gl, g.mem ++ [p], wo g.inv p⟩ = false) := by simp only [Hid]; rw [hgi, hgl]; exact (join_eq (L := L) (hI.each g hm)).2
        obtain ⟨m8, hm8⟩ : ∃ m, m = (wo g.inv p).length := ⟨_, rfl⟩
        have HM8 := Lib.hid hm8
        clear h hI hl hg e hp hm hix hgi hgl ho hoz hm8
        go_enter Try.func54, Try.ntmps54
        go_wp2_with fail
        refine HG.out.mono ?_
        rintro r w1 ⟨m, v, rfl, f1, f2, hb⟩
        rw [← HGI.out.1, ← HGI.out.2]
        obtain ⟨G, hG⟩ : ∃ G, G = w1.heap.size := ⟨_, rfl⟩
        obtain ⟨w3, hw3⟩ : ∃ W, W = w1.alloc (.cells #[.int .u32 (gi : Int), .int .u32 (gl : Int), .slice m.a m.n m.c, .slice v.a v.n v.c] 124) := ⟨_, rfl⟩
        have hq : w3.heap[G]? = some (.cells #[.int .u32 (gi : Int), .int .u32 (gl : Int), .slice m.a m.n m.c, .slice v.a v.n v.c] 124 (0, 0)) := by rw [hw3, hG]; exact heap_alloc_new w1 _
        have hb3 : Below w1.heap.size w1 w3 := by rw [hw3]; exact (Below.refl _ _).alloc (Nat.le_refl _) _
        have z0 := cell_of_row _ G 0 _ _ _ hq
        have z1 := cell_of_row _ G 1 _ _ _ hq
        have z2 := cell_of_row _ G 2 _ _ _ hq
        have z3 := cell_of_row _ G 3 _ _ _ hq
        simp at z0 z1 z2 z3
        have HW3 : Hid (Below w.heap.size w w3 ∧ Fl w3 R vi m g.mem ∧ Fl w3 R vi v g.inv ∧ w3.heap[G]? = some (.cells #[.int .u32 (gi : Int), .int .u32 (gl : Int), .slice m.a m.n m.c, .slice v.a v.n v.c] 124 (0, 0))) := ⟨hb.trans (hb3.mono hb.size), f1.after hb3, f2.after hb3, hq⟩
        have HGW : Hid (w.heap.size ≤ G) := by have := hb.size; simp only [Hid]; omega
        have H3 := Lib.hid hw3
        have HGG := Lib.hid hG
        clear hw3 hG hq hb3 hb f1 f2
        have HH := Lib.hid (has_any v.a v.n v.c g.inv p w3 HW3.out.2.2.1.1 HW3.out.2.2.1.rn (by have := HK.out.four; have := HW3.out.2.2.1.1; omega))
        rw [HPM.out] at HH
        have HOF3 := Lib.hid (HOF.out w3 HW3.out.1)
        go_upto_region 2 with (fail)
        rw [← H3.out, ← HGG.out]
        go_wp2_with fail
        refine HH.out.mono ?_
        rintro r wq ⟨rfl, hw⟩
        have hw := hw.symm
        subst hw
        go_wp2_with fail
        refine HOF3.out.mono ?_
        rintro r wq ⟨rfl, hw⟩
        have hw := hw.symm
        subst hw
        have HWO := Lib.hid (dwo_fl R vi v g.inv p m8 w3 (HD.out.ctx.size HW3.out.1.size) HW3.out.2.2.1 HM8.out (by have := HK.out.four; omega))
        go_wp2_with fail
        refine HWO.out.mono ?_
        rintro r w4 ⟨A4, c4, rfl, f4, hb4⟩
        have hq4 := (hb4.block _ (lt_of_block HW3.out.2.2.2)).trans HW3.out.2.2.2
        have hB4 : Below w.heap.size w w4 := HW3.out.1.trans (hb4.mono HW3.out.1.size)
        clear z0 z1 z2 z3
        have z3 := cell_of_row _ G 3 _ _ _ hq4
        simp at z3
        have zf : ∀ i, w4.frozen? ⟨G, i, none⟩ = false := fun i => frozen_of_row _ _ i _ _ hq4
        obtain ⟨w5, hw5⟩ : ∃ w5, w5 = w4.setCell ⟨G, 3, none⟩ (.slice A4 m8 c4) := ⟨_, rfl⟩
        have hq5 : w5.heap[G]? = some (.cells #[.int .u32 (gi : Int), .int .u32 (gl : Int), .slice m.a m.n m.c, .slice A4 m8 c4] 124 (0, 0)) := by rw [hw5]; exact heap_setCell_same _ G 3 _ 124 _ hq4
        have ho5 : ∀ k, k ≠ G → w5.heap[k]? = w4.heap[k]? := fun k hk => by rw [hw5]; exact Below.heap_setCell _ _ _ _ hk
        have hB5 : Below w.heap.size w w5 := by rw [hw5]; exact hB4.setCell HGW.out _
        have HF5 : Hid (Fl w5 R vi m g.mem ∧ Fl w5 R vi ⟨A4, m8, c4⟩ (wo g.inv p) ∧ Below w.heap.size w w5) := ⟨fl_oth (HW3.out.2.1.after hb4) ho5 (drow hq4), fl_oth f4 ho5 (drow hq4), hB5⟩
        have HW5 := Lib.hid hw5
        obtain ⟨we, hwe⟩ : ∃ we, we = w5.alloc (.cells #[] 26) := ⟨_, rfl⟩
        have hbe : Below w5.heap.size w5 we := by rw [hwe]; exact (Below.refl _ _).alloc (Nat.le_refl _) _
        have hoe : we.ownsRow w5.heap.size 26 1 (.slice (some ⟨w5.heap.size, 0, none⟩) 0 0) 0 [] := ⟨rfl, .inr ⟨w5.heap.size, 0, #[], rfl, Nat.le_refl _, by rw [hwe]; exact heap_alloc_new w5 _, Nat.le_refl _, Nat.zero_le _, rfl, rfl⟩⟩
        obtain ⟨v1, w1e, hr1, ho1, hg1⟩ := app_rn we w5.heap.size 34 0 _ [] hoe m.a m.n m.c g.mem (HF5.out.1).1 (((HF5.out.1).after hbe).rn) (by have h1 := HK.out.four; have h2 := (HF5.out.1).1; omega) hbe.size
        rw [Nat.zero_add, List.nil_append] at ho1
        obtain ⟨A1e, c1e, rfl⟩ := own_form1 ho1
        have HO1 := Lib.hid ho1
        have HB1e : Hid (Below w5.heap.size w5 w1e) := hbe.grown hg1 hbe.size (fun k hk => by have e : w5.heap.size = k := Option.some.inj hk; omega)
        have HSN : Hid (m.n ≤ 4) := by have h1 := HK.out.four; have h2 := (HF5.out.1).1; simp only [Hid]; omega
        have HQS := Lib.hid hq5
        have HCS := Lib.hid (HD.out.ctx.size HF5.out.2.2.size)
        have ze := cell_of_row _ G 2 _ _ _ ((hbe.block _ (lt_of_block HQS.out)).trans HQS.out)
        simp at ze
        rw [hwe] at ze hr1
        clear ho1 hg1 hbe hoe hwe
        clear hw5 hq5 ho5 hB5 hq4 hB4 hb4 f4
        go_upto_region 7 with (fail)
        rw [← HW5.out]
        clear z3 zf
        go_upto_region 8 with (first
  | (at_builtin; refine Lib.wpList_append_run _ rfl _ _ _ _ rfl _ _ rfl rfl _ _ hr1 ?_; clear hr1 ze)
  | (at_builtin; refine wpList_append_u32 rfl _ _ rfl w5.heap.size w1e.heap.size (.slice A1e m.n c1e) m.n _ p rfl rfl (HO1.out.alloc _) (heap_alloc_new _ _) (by have := HSN.out; omega) (by have := HB1e.out.size; simp; omega) ?_; intro v7 w7 hown7 hg7; obtain ⟨A8, c8, rfl⟩ := own_form1 hown7; have HO7 := Lib.hid hown7; have HB7 : Hid (Below w5.heap.size w5 w7) := (HB1e.out.alloc HB1e.out.size _).grown hg7 (by have := HB1e.out.size; simp; omega) (fun g h => (ownlt HO1.out g h).1); clear hown7 hg7; have y2 := cell_of_row _ G 2 _ _ _ ((HB7.out.block _ (lt_of_block HQS.out)).trans HQS.out); simp at y2; have yf : ∀ i, w7.frozen? ⟨G, i, none⟩ = false := fun i => frozen_of_row _ _ i _ _ ((HB7.out.block _ (lt_of_block HQS.out)).trans HQS.out)))
        obtain ⟨w8, hw8⟩ : ∃ w8, w8 = w7.setCell ⟨G, 2, none⟩ (.slice A8 (m.n + 1) c8) := ⟨_, rfl⟩
        have hq7 := (HB7.out.block _ (lt_of_block HQS.out)).trans HQS.out
        have hq8 : w8.heap[G]? = some (.cells #[.int .u32 (gi : Int), .int .u32 (gl : Int), .slice A8 (m.n + 1) c8, .slice A4 m8 c4] 124 (0, 0)) := by rw [hw8]; exact heap_setCell_same _ G 2 _ 124 _ hq7
        have ho8 : ∀ k, k ≠ G → w8.heap[k]? = w7.heap[k]? := fun k hk => by rw [hw8]; exact Below.heap_setCell _ _ _ _ hk
        have f8 : Fl w8 R vi ⟨A8, m.n + 1, c8⟩ (g.mem ++ [p]) := fl_oth (Fl.fresh HCS.out (Nat.le_refl _) (by rw [un_snoc]; exact HO7.out)) ho8 (drow hq7)
        have hB8 : Below w.heap.size w w8 := by rw [hw8]; exact (HF5.out.2.2.trans (HB7.out.mono HF5.out.2.2.size)).setCell HGW.out _
        have g8 := fl_oth (HF5.out.2.1.after HB7.out) ho8 (drow hq7)
        have x0 := cell_of_row _ G 0 _ _ _ hq8
        have x1 := cell_of_row _ G 1 _ _ _ hq8
        have x2 := cell_of_row _ G 2 _ _ _ hq8
        have x3 := cell_of_row _ G 3 _ _ _ hq8
        simp at x0 x1 x2 x3
        obtain ⟨n8, hn8⟩ : ∃ k, k = m.n + 1 := ⟨_, rfl⟩
        rw [← hn8] at f8 hw8 x2
        have HPT : Hid (Calls Try.prog 119 #[.slice A n c, .agg #[.int .u32 (gi : Int), .int .u32 (gl : Int), .slice A8 n8 c8, .slice A4 m8 c4]] w8 fun r w' => DPutP R vi (insL L { g with mem := g.mem ++ [p], inv := wo g.inv p }) false w8 r w') := by
          have hh := dput_any R vi A n c L ⟨gi, gl, g.mem ++ [p], wo g.inv p⟩ (⟨A8, n8, c8⟩) (⟨A4, m8, c4⟩) w8 (HD.out.ctx.size (hB8).size) HD.out.n (HD.out.dr.after hB8) HL.out HI.out.ris f8 g8 (by show (g.mem ++ [p]).length ≤ 100 ∧ (wo g.inv p).length ≤ 100; have h1 := HK.out.four; have h2 := wo_len g.mem p; have h3 := wo_len g.inv p; (try simp only [List.length_append, List.length_cons, List.length_nil]); omega)
          dsimp only at hh
          rw [HEQ.out, HTF.out] at hh
          exact hh
        have HBW := Lib.hid (hB8)
        have HW8 := Lib.hid hw8
        rw [← hn8]
        clear hw8 hq7 hq8 ho8 hB8 f8 g8 hn8
        rw [← HW8.out]
        clear y2 yf
        go_wp2_with fail
        refine HPT.out.mono ?_
        rintro r w9 ⟨A9, n9, c9, rfl, hn9, hd9, hb9⟩
        have HFIN : Hid (DP1 R vi (insL L { g with mem := g.mem ++ [p], inv := wo g.inv p }, 0) w (.returned (.tuple #[.slice A9 n9 c9, .int .i64 0])) w9) := ⟨_, _, _, rfl, ⟨hn9, hd9, (HD.out.ctx.size HBW.out.size).size hb9.size⟩, HBW.out.trans (hb9.mono HBW.out.size)⟩
        clear hn9 hd9 hb9
        go_wp2
        go_ret2
        exact HFIN.out
    · have e : joinS L x p = (L, 12) := by unfold joinS; rw [hg]; simp only; rw [if_neg hp]
      rw [e]
      have HPM : Hid (decide (p ∈ g.inv) = false) := by simp only [Hid]; simpa using hp
      clear h hI hl hg e hp hm hix hgi hgl
      go_enter Try.func54, Try.ntmps54
      go_wp2_with fail
      refine HG.out.mono ?_
      rintro r w1 ⟨m, v, rfl, f1, f2, hb⟩
      rw [← HGI.out.1, ← HGI.out.2]
      obtain ⟨G, hG⟩ : ∃ G, G = w1.heap.size := ⟨_, rfl⟩
      obtain ⟨w3, hw3⟩ : ∃ W, W = w1.alloc (.cells #[.int .u32 (gi : Int), .int .u32 (gl : Int), .slice m.a m.n m.c, .slice v.a v.n v.c] 124) := ⟨_, rfl⟩
      have hq : w3.heap[G]? = some (.cells #[.int .u32 (gi : Int), .int .u32 (gl : Int), .slice m.a m.n m.c, .slice v.a v.n v.c] 124 (0, 0)) := by rw [hw3, hG]; exact heap_alloc_new w1 _
      have hb3 : Below w1.heap.size w1 w3 := by rw [hw3]; exact (Below.refl _ _).alloc (Nat.le_refl _) _
      have z0 := cell_of_row _ G 0 _ _ _ hq
      have z1 := cell_of_row _ G 1 _ _ _ hq
      have z2 := cell_of_row _ G 2 _ _ _ hq
      have z3 := cell_of_row _ G 3 _ _ _ hq
      simp at z0 z1 z2 z3
      have HW3 : Hid (Below w.heap.size w w3 ∧ Fl w3 R vi m g.mem ∧ Fl w3 R vi v g.inv ∧ w3.heap[G]? = some (.cells #[.int .u32 (gi : Int), .int .u32 (gl : Int), .slice m.a m.n m.c, .slice v.a v.n v.c] 124 (0, 0))) := ⟨hb.trans (hb3.mono hb.size), f1.after hb3, f2.after hb3, hq⟩
      have HGW : Hid (w.heap.size ≤ G) := by have := hb.size; simp only [Hid]; omega
      have H3 := Lib.hid hw3
      have HGG := Lib.hid hG
      clear hw3 hG hq hb3 hb f1 f2
      have HH := Lib.hid (has_any v.a v.n v.c g.inv p w3 HW3.out.2.2.1.1 HW3.out.2.2.1.rn (by have := HK.out.four; have := HW3.out.2.2.1.1; omega))
      rw [HPM.out] at HH
      go_upto_region 2 with (fail)
      rw [← H3.out, ← HGG.out]
      go_wp2_with fail
      refine HH.out.mono ?_
      rintro r wq ⟨rfl, hw⟩
      have hw := hw.symm
      subst hw
      have HFIN : Hid (DP1 R vi (L, 12) w (.returned (.tuple #[.slice A n c, .int .i64 12])) w3) := ⟨_, _, _, rfl, HD.out.after HW3.out.1, HW3.out.1⟩
      go_wp2
      go_ret2
      exact HFIN.out
end Go.Proofs.Ytjlpmdokmfmdiaa.P
